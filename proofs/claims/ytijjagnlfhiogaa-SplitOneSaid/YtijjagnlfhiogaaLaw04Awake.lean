/-
  The fixed answer of stage 4's statements is true.
-/
import Derived.Test.YtijjagnlfhiogaaSplitEven
import Derived.Test.YtijjagnlfhiogaaRef04Split
namespace Go.Proofs.Ytijjagnlfhiogaa
open Go.RowKit

theorem in64_all {l : List Int} (h : l.all (fun x => decide (-9223372036854775808 ≤ x) && decide (x ≤ 9223372036854775807)) = true) : In64 l := fun i hi => by
  have : l.getD i 0 ∈ l := by simp [List.getD, hi]
  have := List.all_eq_true.1 h _ this
  simp only [Bool.and_eq_true, decide_eq_true_eq] at this
  exact this
theorem sl_lit (w : World) (l : List Int) (hi : l.all (fun x => decide (-9223372036854775808 ≤ x) && decide (x ≤ 9223372036854775807)) = true) (hl : l.length ≤ 1000) : Sl (w.alloc (.cells (cellsOfInts l).toArray 3)) (some ⟨w.heap.size, 0, none⟩) l.length l := by
  have h := World.ownsRow_lit (base := w.heap.size) (e := 3) (size := 1) w (cellsOfInts l).toArray l.length (by omega) (by unfold maxLen; omega) (by simp [cellsOfInts])
  obtain ⟨a, cap, e, _, _, _, hsl⟩ := sl_of_own (l := l) h (in64_all hi) (by omega)
  injection e with e1
  rw [e1]; exact hsl
theorem list3 : PSplit.errOf 100 [1, 1, 1] = 0 ∧ PSplit.listOf 100 [1, 1, 1] = [34, 33, 33] := by decide +kernel
theorem list2 : PSplit.errOf 7 (List.replicate 2 1) = 0 ∧ PSplit.listOf 7 (List.replicate 2 1) = [4, 3] := by decide +kernel

set_option maxHeartbeats 1600000 in
theorem awake_any (w : World) : Calls Try.prog 8 #[] w fun e w' => e = .returned (.bool true) ∧ Below w.heap.size w w' := by
  have M1 : Hid (∀ A w, Sl w A 3 [1, 1, 1] → Calls Try.prog 9 #[.int .i64 100, .slice A 3 3] w (SplR [34, 33, 33] 0 w)) := Lib.hid (fun A w h => by
    have := split_any 100 A 3 3 [1, 1, 1] w h (by omega)
    rw [list3.1, list3.2] at this
    exact this)
  have M2 : Hid (∀ w, Calls Try.prog 10 #[.int .i64 7, .int .i64 2] w (SplR [4, 3] 0 w)) := Lib.hid (fun w => by
    have := even_mid 7 2 w (by omega) (by omega) (by omega)
    rw [list2.1, list2.2] at this
    exact this)
  have L1 : Hid (∀ w : World, Sl (w.alloc (.cells #[.int .i64 1, .int .i64 1, .int .i64 1] 3)) (some ⟨w.heap.size, 0, none⟩) 3 [1, 1, 1]) := Lib.hid (fun w => sl_lit w [1, 1, 1] (by decide) (by decide))
  have L2 : Hid (∀ w : World, Sl (w.alloc (.cells #[.int .i64 34, .int .i64 33, .int .i64 33] 3)) (some ⟨w.heap.size, 0, none⟩) 3 [34, 33, 33]) := Lib.hid (fun w => sl_lit w [34, 33, 33] (by decide) (by decide))
  have L3 : Hid (∀ w : World, Sl (w.alloc (.cells #[.int .i64 4, .int .i64 3] 3)) (some ⟨w.heap.size, 0, none⟩) 2 [4, 3]) := Lib.hid (fun w => sl_lit w [4, 3] (by decide) (by decide))
  go_enter Try.func8, Try.ntmps8
  go_wp2_with fail
  refine (M1.out _ _ (L1.out w)).mono ?_
  rintro _ w1 ⟨B1, m1, c1, rfl, -, -, S1, b1⟩
  go_wp2_with fail
  refine (M2.out _).mono ?_
  rintro _ w2 ⟨B2, m2, c2, rfl, -, -, S2, b2⟩
  have HS1 := Lib.hid (S1.on b2)
  have HS2 := Lib.hid S2
  have HB := Lib.hid (below_step (((Below.refl w.heap.size w).alloc (Nat.le_refl _) _).trans (b1.mono (by simp))) b2)
  clear S1 S2 b1 b2
  go_wp2_with fail
  refine (same_any B1 _ m1 3 c1 3 [34, 33, 33] [34, 33, 33] _ (HS1.out.on ((Below.refl _ _).alloc (Nat.le_refl _) _)) (L2.out w2)).mono ?_
  rintro _ w3 ⟨rfl, b3⟩
  rw [show decide (([34, 33, 33] : List Int) = [34, 33, 33]) = true from rfl]
  have HB3 := Lib.hid (HB.out.trans ((((Below.refl w2.heap.size w2).alloc (Nat.le_refl _) _).trans (b3.mono (by simp))).mono HB.out.size))
  have HS3 := Lib.hid (HS2.out.on (((Below.refl w2.heap.size w2).alloc (Nat.le_refl _) _).trans (b3.mono (by simp))))
  clear b3
  go_wp2_with fail
  refine (same_any B2 _ m2 2 c2 2 [4, 3] [4, 3] _ (HS3.out.on ((Below.refl _ _).alloc (Nat.le_refl _) _)) (L3.out w3)).mono ?_
  rintro _ w4 ⟨rfl, b4⟩
  rw [show decide (([4, 3] : List Int) = [4, 3]) = true from rfl]
  have HB4 := Lib.hid (HB3.out.trans ((((Below.refl w3.heap.size w3).alloc (Nat.le_refl _) _).trans (b4.mono (by simp))).mono HB3.out.size))
  clear b4
  go_wp2_with fail
  go_ret
  exact ⟨rfl, HB4.out⟩
end Go.Proofs.Ytijjagnlfhiogaa
