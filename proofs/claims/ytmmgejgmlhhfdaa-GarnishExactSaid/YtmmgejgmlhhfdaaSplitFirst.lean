/-
  What greatestFirst of package split answers: the places, each at its rank.
-/
import Derived.Test.YtmmgejgmlhhfdaaSplitOrder
import Derived.Test.YtmmgejgmlhhfdaaRowKit
namespace Go.Proofs.Ytmmgejgmlhhfdaa
open Go.RowKit Go.Sort Go.Lib PSym

theorem sortstable_any {n blk off N g : Nat} {cb : Array Value} {cf : Fin (n + 1) → Fin (n + 1) → Int} {lt : Fin (n + 1) → Fin (n + 1) → Bool} {d0 : Array (Fin (n + 1))} {w0 : World} (T : Told n blk off N g cb cf lt d0 w0)
    (cap : Nat) (S : SW enc1 w0 blk off d0 w0) (hf : ∀ t, t < N → (at' d0 t).val = t) :
    Calls Try.prog 66 #[.slice (some ⟨blk, off, none⟩) N cap, .func (.func g) #[] cb] w0 fun e w' =>
      e = .returned (.tuple #[]) ∧ ∃ d', SW enc1 w0 blk off d' w' ∧ PermIn 0 N d0 d' ∧ Blk lt 0 N d' := by
  have H := Lib.hid (stable_any T cap S hf)
  clear T S hf
  go_enter Try.func66, Try.ntmps66
  go_wp2_with fail
  refine H.out.mono ?_
  rintro _ w1 ⟨rfl, hd⟩
  have HD := Lib.hid hd
  clear hd
  go_wp2_with fail
  go_end0
  exact ⟨rfl, HD.out⟩

set_option maxHeartbeats 3200000 in
set_option maxRecDepth 100000 in
theorem greatest_any (n b off cap : Nat) (r : Nat → Nat) (w : World) (hn : n + 1 ≤ 60) (hc : ∀ i, i < n + 1 → w.cell? ⟨b, off + i, none⟩ = some (.int .i64 ((r i : Nat) : Int))) :
    Calls Try.prog 40 #[.slice (some ⟨b, off, none⟩) (n + 1 : Nat) cap] w fun e w' => ∃ (pb : Nat) (f : Nat → Nat), e = .returned (.slice (some ⟨pb, 0, none⟩) (n + 1 : Nat) (n + 1 : Nat)) ∧ w.heap.size ≤ pb ∧
      (∀ t, t < n + 1 → f t < n + 1 ∧ PSplit.rank r (n + 1) (f t) = t ∧ w'.cell? ⟨pb, t, none⟩ = some (.int .i64 ((f t : Nat) : Int))) ∧ Below w.heap.size w w' := by
  obtain ⟨N, hN⟩ : ∃ N, N = n + 1 := ⟨_, rfl⟩
  rw [← hN] at hn ⊢
  have hmk := make_row N (by omega)
  have HC : Hid (∀ i, i < N → w.cell? ⟨b, off + i, none⟩ = some (.int .i64 ((r i : Nat) : Int))) := Lib.hid (by rw [hN]; exact hc)
  have HN := Lib.hid hN
  clear hc hN
  go_enter Try.func40, Try.ntmps40
  go_wp2_with fail
  obtain ⟨w1, hw1⟩ : ∃ w1, w1 = w.alloc (.cells #[.slice (some ⟨b, off, none⟩) N cap] 24) := ⟨_, rfl⟩
  rw [← hw1]
  have hs1 : w1.heap.size = w.heap.size + 1 := by rw [hw1]; simp
  have HB1 : Hid (Below w.heap.size w w1) := Lib.hid (by rw [hw1]; exact (Below.refl _ _).alloc (Nat.le_refl _) _)
  have HBX : Hid (w1.cell? ⟨w.heap.size, 0, none⟩ = some (.slice (some ⟨b, off, none⟩) N cap)) := Lib.hid (by rw [hw1]; go_simp)
  have HC1 : Hid (∀ i, i < N → w1.cell? ⟨b, off + i, none⟩ = some (.int .i64 ((r i : Nat) : Int))) := Lib.hid (fun i hi => (HB1.out.cell (World.block_lt_of_cell? w _ (HC.out i hi))).trans (HC.out i hi))
  clear hw1 HC
  go_loopw [10] (fun i wr => ∃ (k : Nat) (l : List Int), k ≤ N ∧ i = .int .i64 k ∧ l.length = N ∧ Hid (∀ t, t < k → l.getD t 0 = ((t : Nat) : Int)) ∧ Hid (Row wr (w.heap.size + 1) N l) ∧ Hid (Below (w.heap.size + 1) w1 wr)) (fun i _ => N - (intOf i).toNat)
  case atStart => exact ⟨0, _, Nat.zero_le _, rfl, List.length_replicate, (show Hid _ from fun t ht => by omega), (show Hid _ from made_row w1 _ N hs1 (by omega)), (show Hid _ from (Below.refl _ _).alloc (Nat.le_of_eq hs1.symm) _)⟩
  case round =>
    clear hmk
    obtain ⟨k, l, hk, rfl, hl, HL, HR, HB⟩ := hrel
    by_cases hlt : k < N
    · have c1 := row_at HR.out hl hlt
      have c2 : wr.frozen? ⟨w.heap.size + 1, k, none⟩ = false := HR.out.frozenAt _
      have HL2 : Hid (∀ t, t < k + 1 → (l.set k ((k : Nat) : Int)).getD t 0 = ((t : Nat) : Int)) := Lib.hid (fun t ht => by
        by_cases e : t = k
        · subst e; simp [List.getD, hl, hlt]
        · have := HL.out t (by omega)
          simp only [List.getD, List.getElem?_set_ne (Ne.symm e)] at this ⊢
          exact this)
      have i1 : (0 : Int) ≤ (k : Int) := by omega
      have i2 : (k : Int) < (N : Int) := by omega
      have HR2 := Lib.hid (row_set HR.out k (k : Int))
      have HB2 : Hid (Below (w.heap.size + 1) w1 (wr.setCell ⟨w.heap.size + 1, k, none⟩ (.int .i64 k))) := Lib.hid (HB.out.setCell (Nat.le_refl _) _)
      go_wp2_with fail
      exact ⟨⟨k + 1, _, by omega, by congr 1, by rw [List.length_set]; exact hl, HL2, HR2, HB2⟩, by simp [intOf]; omega⟩
    · obtain rfl : k = N := by omega
      have hlen := HB.out.size
      have H0 : Hid (Holds enc1 wr (w.heap.size + 1) 0 (PSplit.rowP n)) := Lib.hid (fun j hj => by
        have hj' : j < k := by rw [PSplit.rowP_size] at hj; rw [HN.out]; exact hj
        have := row_at HR.out hl hj'
        rw [HL.out j hj'] at this
        rw [Nat.zero_add]
        refine ⟨?_, HR.out.frozenAt _⟩
        rw [this, show (PSplit.rowP n)[j]! = at' (PSplit.rowP n) j from rfl, PSplit.rowP_at (by have := HN.out; omega)]
        rfl)
      have hblk : w.heap.size + 1 < wr.heap.size := World.block_lt_of_cell? wr _ (row_at HR.out hl (t := 0) (by have := HN.out; omega))
      have T : Told n (w.heap.size + 1) 0 k 67 #[.pointer (some ⟨w.heap.size, 0, none⟩)] (PSplit.cfP r n) (PSplit.ltP r n) (PSplit.rowP n) wr :=
        { hS := PSplit.ltP_swo r n
          eg := fun args w => rfl
          hC := fun m os dk hs x y => by
            have hb := sortWorld_below enc1 wr (w.heap.size + 1) 0 (w.heap.size + 1) m dk os (Nat.le_refl _) hblk
            have hb1 := HB.out.trans hb
            refine (cmp_first b off w.heap.size cap k r x.val y.val _ (by have := x.isLt; have := HN.out; omega) (by have := y.isLt; have := HN.out; omega) ?_ ?_).mono ?_
            · exact (hb1.cell (p := ⟨w.heap.size, 0, none⟩) (by simp)).trans HBX.out
            · intro i hi
              have h1 := HC1.out i hi
              exact (hb1.cell (p := ⟨b, off + i, none⟩) (by have := World.block_lt_of_cell? w1 _ h1; omega)).trans h1
            · intro e w' h; exact h
          R := ⟨enc1_one n, H0.out, hblk⟩
          hN := by rw [PSplit.rowP_size]; exact HN.out.symm
          hsz := hn
          hV := fun x y h => PSplit.cfP_lt r x y h }
      have HT := Lib.hid T
      clear T
      go_wp2_with fail
      refine (sortstable_any HT.out k (SW.start H0.out) (fun t ht => by rw [PSplit.rowP_at (by have := HN.out; omega)])).mono ?_
      rintro _ w3 ⟨rfl, d, S3, P3, B3⟩
      have hb3 : Below (w.heap.size + 1) wr w3 := by
        obtain ⟨m, os, rfl⟩ := S3
        exact sortWorld_below enc1 wr (w.heap.size + 1) 0 (w.heap.size + 1) m d os (Nat.le_refl _) hblk
      have HB4 : Hid (Below w.heap.size w w3) := Lib.hid (HB1.out.trans ((HB.out.trans hb3).mono (by omega)))
      have hds : d.size = k := by rw [P3.1, PSplit.rowP_size]; exact HN.out.symm
      have HF : Hid (∀ t, t < k → (at' d t).val < k ∧ PSplit.rank r k (at' d t).val = t ∧ w3.cell? ⟨w.heap.size + 1, t, none⟩ = some (.int .i64 (((at' d t).val : Nat) : Int))) := Lib.hid (fun t ht => by
        refine ⟨by have := (at' d t).isLt; have := HN.out; omega, ?_, ?_⟩
        · have hk' := HN.out
          have p := P3
          have b3 := B3.1
          rw [hk'] at p b3 ht ⊢
          exact PSplit.sorted_rank p b3 t ht
        · have := (S3.holds hblk H0.out (by rw [hds, PSplit.rowP_size]; exact HN.out) t (by omega)).1
          rw [Nat.zero_add] at this
          exact this)
      clear S3 P3 B3 hb3 HT
      go_wp2_with fail
      go_ret
      exact ⟨w.heap.size + 1, fun t => (at' d t).val, rfl, by omega, HF.out, HB4.out⟩
end Go.Proofs.Ytmmgejgmlhhfdaa
