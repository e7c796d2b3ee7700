/-
  The fixed answer at the end of each law of layer 3.
-/
import Derived.Test.YtkbfhmdkcfbbgaaDoorRateOf
import Derived.Test.YtkbfhmdkcfbbgaaDoorRateParse
namespace Go.Proofs.YtkbfhmdkcfbbgaaDoor
open Go.RowKit

theorem of1 : ofP 1005 1250 3 = (126, 0) := by decide

set_option maxHeartbeats 800000 in
theorem awake_any (w : World) : Calls Tryd.prog 5 #[] w fun e w' => e = .returned (.bool true) ∧ Below w.heap.size w w' := by
  have M1 := Lib.hid (of_at of1 (by omega) (by omega))
  have P := Lib.hid (fun w => rparse_any ⟨#[49, 50, 46, 53, 48, 37]⟩ w (by decide))
  rw [rparseV_some (n := 1250) PRate.awake] at P
  have R1 := Lib.hid (rate_yes 10000 · (by decide))
  have R2 := Lib.hid (rate_no 10001 · (by decide))
  go_enter Tryd.func5, Tryd.ntmps5
  go_wp2_with fail
  refine (M1.out _).mono ?_
  rintro _ w1 ⟨rfl, b1⟩
  go_wp2_with fail
  refine (P.out _).mono ?_
  rintro _ _ ⟨rfl, rfl⟩
  go_wp2_with fail
  refine (R1.out _).mono ?_
  rintro _ _ ⟨rfl, rfl⟩
  go_wp2_with fail
  refine (R2.out _).mono ?_
  rintro _ _ ⟨rfl, rfl⟩
  go_wp2_with fail
  go_ret
  exact ⟨rfl, b1⟩
end Go.Proofs.YtkbfhmdkcfbbgaaDoor
