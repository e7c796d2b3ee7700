/-
  MoneyBack: what is added and taken off is as it was; sums do not hang on their order: for any two numbers the law answers true.
-/
import Derived.Test.YtplbebfpahgmoaaDoorLaw01Awake
namespace Go.Proofs.YtplbebfpahgmoaaDoor
open Go.RowKit

set_option maxHeartbeats 1600000 in
theorem back_yes (a b : Int) (w : World) (ht : Tab w) (ha' : a ≤ 9223372036854775807) (hb' : b ≤ 9223372036854775807) (h : Adds a b) :
    Calls Tryd.prog 5 #[.int .i64 a, .int .i64 b] w fun e w' => e = .returned (.bool true) ∧ Below w.heap.size w w' := by
  have H := Lib.hid h
  have H2 : Hid (Adds b a) := Lib.hid (by unfold Adds at h ⊢; omega)
  have H3 : Hid (Adds (a + b) (-b)) := Lib.hid (by unfold Adds at h ⊢; omega)
  have H4 : Hid (Adds (a + b) (-a)) := Lib.hid (by unfold Adds at h ⊢; omega)
  have hbl : -9223372036854775807 ≤ b := h.2.1
  have hal : -9223372036854775807 ≤ a := h.1
  have e1 : (a + b == b + a) = true := beq_iff_eq.2 (by omega)
  have e3 : (a + b - a == b) = true := beq_iff_eq.2 (by omega)
  clear h
  go_enter Tryd.func5, Tryd.ntmps5
  go_wp2_with fail
  refine (add_yes _ _ _ hb' H.out).mono ?_
  rintro e w' ⟨rfl, rfl⟩
  go_wp2_with fail
  refine (add_yes _ _ _ ha' H2.out).mono ?_
  rintro e w' ⟨rfl, rfl⟩
  go_wp2_with fail
  refine (sub_yes _ _ _ hbl hb' H3.out).mono ?_
  rintro e w' ⟨rfl, rfl⟩
  go_wp2_with fail
  refine (sub_yes _ _ _ hal ha' H4.out).mono ?_
  rintro e w' ⟨rfl, rfl⟩
  go_wp2_with fail
  refine (awake_yes _ ht).mono ?_
  rintro e w1 ⟨rfl, hw⟩
  go_wp2
  go_ret
  exact ⟨rfl, hw⟩

set_option maxHeartbeats 1600000 in
theorem back_no (a b : Int) (w : World) (ht : Tab w) (ha : -9223372036854775808 ≤ a) (ha' : a ≤ 9223372036854775807) (hb : -9223372036854775808 ≤ b) (hb' : b ≤ 9223372036854775807) (h : ¬ Adds a b) :
    Calls Tryd.prog 5 #[.int .i64 a, .int .i64 b] w fun e w' => e = .returned (.bool true) ∧ Below w.heap.size w w' := by
  have H := Lib.hid h
  have H2 : Hid (¬ Adds b a) := Lib.hid (by unfold Adds at h ⊢; omega)
  clear h
  go_enter Tryd.func5, Tryd.ntmps5
  go_wp2_with fail
  refine (add_no _ _ _ ha ha' hb hb' H.out).mono ?_
  rintro e w' ⟨rfl, rfl⟩
  go_wp2_with fail
  refine (add_no _ _ _ hb hb' ha ha' H2.out).mono ?_
  rintro e w' ⟨rfl, rfl⟩
  go_wp2_with fail
  refine (awake_yes _ ht).mono ?_
  rintro e w1 ⟨rfl, hw⟩
  go_wp2
  go_ret
  exact ⟨rfl, hw⟩

theorem back_any (a b : Int) (w : World) (ht : Tab w) (ha : -9223372036854775808 ≤ a) (ha' : a ≤ 9223372036854775807) (hb : -9223372036854775808 ≤ b) (hb' : b ≤ 9223372036854775807) :
    Calls Tryd.prog 5 #[.int .i64 a, .int .i64 b] w fun e w' => e = .returned (.bool true) ∧ Below w.heap.size w w' := by
  by_cases h : Adds a b
  · exact back_yes a b w ht ha' hb' h
  · exact back_no a b w ht ha ha' hb hb' h
theorem back_walk (a b : Int) (w : World) (ht : Tab w) (ha : (Lit.int .i64 a).wf = true) (hb : (Lit.int .i64 b).wf = true) :
    Calls Tryd.prog 5 #[.int .i64 a, .int .i64 b] w fun e w' => e = .returned (.bool true) ∧ Below w.heap.size w w' :=
  back_any a b w ht (i64_bounds ha).1 (i64_bounds ha).2 (i64_bounds hb).1 (i64_bounds hb).2
end Go.Proofs.YtplbebfpahgmoaaDoor
