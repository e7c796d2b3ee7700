/-
  The fixed answer of stage 15's statements is true.
-/
import Derived.Test.YtmmgejgmlhhfdaaGA
import Derived.Test.YtmmgejgmlhhfdaaRef04Sum
namespace Go.Proofs.Ytmmgejgmlhhfdaa
open Go.RowKit

theorem slo_lit (w : World) (l : List PGa.Ord) (hi : ∀ i (h : i < l.length), PGa.In l[i]) (hl : l.length ≤ 1000) : SlO (w.alloc (.cells (ordR.cells l).toArray 35)) (some ⟨w.heap.size, 0, none⟩) l.length l := by
  refine ⟨⟨rfl, .inr ⟨w.heap.size, 0, rfl, fun i h j v e => ?_⟩⟩, hi, by omega⟩
  rw [World.cell?_alloc_at _ _ _ _ rfl, Nat.zero_add]
  simpa using ordR.cells_get l i h j v e
theorem in64_lit {l : List Int} (h : l.all (fun x => decide (-9223372036854775808 ≤ x) && decide (x ≤ 9223372036854775807)) = true) : In64 l := fun i hi => by
  have : l.getD i 0 ∈ l := by simp [List.getD, hi]
  have := List.all_eq_true.1 h _ this
  simp only [Bool.and_eq_true, decide_eq_true_eq] at this
  exact this
theorem sl_lit15 (w : World) (l : List Int) (hi : l.all (fun x => decide (-9223372036854775808 ≤ x) && decide (x ≤ 9223372036854775807)) = true) (hl : l.length ≤ 1000) : Sl (w.alloc (.cells (cellsOfInts l).toArray 3)) (some ⟨w.heap.size, 0, none⟩) l.length l := by
  have h := World.ownsRow_lit (base := w.heap.size) (e := 3) (size := 1) w (cellsOfInts l).toArray l.length (by omega) (by unfold maxLen; omega) (by simp [cellsOfInts])
  obtain ⟨a, cap, e, _, _, _, hsl⟩ := sl_of_own (l := l) h (in64_lit hi) (by omega)
  injection e with e1
  rw [e1]; exact hsl
def ga3 : List PGa.Ord := [⟨0, 1, 30, 99⟩, ⟨0, 2, 40, 99⟩, ⟨0, 2, 20, 99⟩]
def ga1 : List PGa.Ord := [⟨0, 0, 0, 5⟩]
theorem ga3_in : ∀ o ∈ ga3, PGa.In o := by
  intro o h
  simp [ga3] at h
  rcases h with rfl | rfl | rfl <;> (unfold PGa.In; decide)
theorem ga1_in : ∀ o ∈ ga1, PGa.In o := by
  intro o h
  simp [ga1] at h
  subst h
  unfold PGa.In; decide
theorem ga3_err : PGa.err 100 40 ga3 = 0 := by decide +kernel
theorem ga3_list : PSplit.wlist (PGa.served (PGa.there 100 40) ga3) 3 = [30, 20, 10] := by decide +kernel

set_option maxHeartbeats 3200000 in
theorem awake_any (w : World) : Calls Try.prog 10 #[] w fun e w' => e = .returned (.bool true) ∧ Below w.heap.size w w' := by
  have M1 : Hid (∀ w : World, Calls Try.prog 11 #[.int .i64 100, .int .i64 40, .slice (some ⟨w.heap.size, 0, none⟩) 3 3] (w.alloc (.cells #[.int .i64 0, .int .i64 1, .int .i64 30, .int .i64 99, .int .i64 0, .int .i64 2, .int .i64 40, .int .i64 99, .int .i64 0, .int .i64 2, .int .i64 20, .int .i64 99] 35)) (ServeR 3 [30, 20, 10] (w.alloc (.cells #[.int .i64 0, .int .i64 1, .int .i64 30, .int .i64 99, .int .i64 0, .int .i64 2, .int .i64 40, .int .i64 99, .int .i64 0, .int .i64 2, .int .i64 20, .int .i64 99] 35)))) := Lib.hid (fun w => by
    have h := slo_lit w ga3 (fun i hi => ga3_in _ (List.getElem_mem hi)) (by decide)
    have := gaserve_yes (cap := 3) h ga3_err
    rw [show ga3.length = 3 from rfl, ga3_list] at this
    exact this)
  have M3 : Hid (∀ w : World, Calls Try.prog 15 #[.slice (some ⟨w.heap.size, 0, none⟩) 1 1, .slice (some ⟨w.heap.size + 1, 0, none⟩) 1 1] ((w.alloc (.cells #[.int .i64 0, .int .i64 0, .int .i64 0, .int .i64 5] 35)).alloc (.cells #[.int .i64 2] 3)) (fun e w' => ∃ g o c, e = .returned (.tuple #[.slice (some ⟨g, o, none⟩) 1 c, .bool true]) ∧ w'.cell? ⟨g, o + 3, none⟩ = some (.int .i64 3) ∧ Below ((w.alloc (.cells #[.int .i64 0, .int .i64 0, .int .i64 0, .int .i64 5] 35)).alloc (.cells #[.int .i64 2] 3)).heap.size ((w.alloc (.cells #[.int .i64 0, .int .i64 0, .int .i64 0, .int .i64 5] 35)).alloc (.cells #[.int .i64 2] 3)) w')) := Lib.hid (fun w => by
    have h := slo_lit w ga1 (fun i hi => ga1_in _ (List.getElem_mem hi)) (by decide)
    have h2 := h.on ((Below.refl _ _).alloc (Nat.le_refl _) (.cells #[.int .i64 2] 3))
    have hs := sl_lit15 (w.alloc (.cells #[.int .i64 0, .int .i64 0, .int .i64 0, .int .i64 5] 35)) [2] (by decide) (by decide)
    rw [show (w.alloc (.cells #[.int .i64 0, .int .i64 0, .int .i64 0, .int .i64 5] 35)).heap.size = w.heap.size + 1 by simp] at hs
    have := gapaid_any (ca := 1) (cp := 1) h2 (fun e => by cases e) (by decide) hs (by decide)
    refine this.mono ?_
    rintro e w' ⟨hb, ⟨_, B, c, L, rfl, _, hc, hsl, _⟩ | ⟨hn, _⟩⟩
    · obtain ⟨b, off, rfl, hcell⟩ := hsl.cells (show 0 < ga1.length by decide)
      have hL0 : 0 < L.length := by rw [hc.1]; decide
      have e0 := hc.2 0 (by decide) hL0
      rw [if_pos (by decide)] at e0
      obtain ⟨-, -, -, d⟩ := hcell 0 hL0
      rw [e0] at d
      exact ⟨b, off, c, rfl, by simpa [ga1, PGa.cut, List.getD] using d, hb⟩
    · refine absurd ⟨rfl, fun i hi => ?_⟩ hn
      have : i = 0 := by simp [ga1] at hi; omega
      subst this
      exact ⟨by decide, by simp [ga1, List.getD]⟩)
  have L2 : Hid (∀ w : World, Sl (w.alloc (.cells #[.int .i64 30, .int .i64 20, .int .i64 10] 3)) (some ⟨w.heap.size, 0, none⟩) 3 [30, 20, 10]) := Lib.hid (fun w => sl_lit15 w [30, 20, 10] (by decide) (by decide))
  go_enter Try.func10, Try.ntmps10
  go_wp2_with fail
  refine (M1.out _).mono ?_
  rintro _ w1 ⟨B1, rfl, -, s1, b1⟩
  have S1 := Lib.hid s1
  have HB1 := Lib.hid (below_step ((Below.refl w.heap.size w).alloc (Nat.le_refl _) _) b1)
  clear s1 b1 M1
  go_wp2_with fail
  refine (M3.out _).mono ?_
  rintro _ w2 ⟨g, o, c, rfl, d3, b2⟩
  have b2' : Below w1.heap.size w1 w2 := below_step (((Below.refl _ _).alloc (Nat.le_refl _) _).alloc (by simp) _) b2
  have S2 := Lib.hid (S1.out.on b2'); have HB2 := Lib.hid (below_step HB1.out b2')
  have D3 := Lib.hid d3
  clear b2 b2' d3 S1 HB1 M3
  go_wp2_with fail
  refine (same_any (some ⟨B1, 0, none⟩) _ 3 3 3 3 [30, 20, 10] [30, 20, 10] _ (S2.out.on ((Below.refl _ _).alloc (Nat.le_refl _) _)) (L2.out w2)).mono ?_
  rintro _ w3 ⟨rfl, b3⟩
  rw [show decide (([30, 20, 10] : List Int) = [30, 20, 10]) = true from rfl]
  have b3' : Below w2.heap.size w2 w3 := below_step ((Below.refl _ _).alloc (Nat.le_refl _) _) b3
  have HB3 := Lib.hid (below_step HB2.out b3')
  have d3 := (b3'.cell (World.block_lt_of_cell? w2 _ D3.out)).trans D3.out
  clear b3 b3'
  go_wp2_with fail
  go_ret
  exact ⟨by first | rfl | (simp; done), HB3.out⟩
end Go.Proofs.Ytmmgejgmlhhfdaa
