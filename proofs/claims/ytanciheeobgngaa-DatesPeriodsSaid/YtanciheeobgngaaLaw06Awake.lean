/-
  The fixed answer of stage 6's statements is true.
-/
import Derived.Test.YtanciheeobgngaaDates
namespace Go.Proofs.Ytanciheeobgngaa
open Go.RowKit

set_option maxHeartbeats 1600000 in
theorem awake_any (w : World) : Calls Try.prog 16 #[] w fun e w' => e = .returned (.bool true) ∧ Below w.heap.size w w' := by
  have o1 : PDate.ok 1900 3 1 := by decide
  have hN : Hid (∀ w, Calls Try.prog 10 #[.agg #[.int .i64 1900, .int .i64 3, .int .i64 1]] w fun e w' => e = .returned (.tuple #[.int .i64 59, .bool true]) ∧ Below w.heap.size w w') := Lib.hid (fun w => by
    have := dnum_any (y := 1900) (m := 3) (d := 1) (w := w) (by unfold I64; omega) (by unfold I64; omega) (by unfold I64; omega)
    rw [if_pos o1, decide_eq_true o1, show PDate.num 1900 3 1 = 59 from rfl] at this; exact this)
  have hO : Hid (∀ w, Calls Try.prog 18 #[.int .i64 59] w fun e w' => e = .returned (.tuple #[.agg #[.int .i64 1900, .int .i64 3, .int .i64 1], .bool true]) ∧ Below w.heap.size w w') := Lib.hid (fun w => dof_yes o1)
  have hL : Hid (∀ w, Calls Try.prog 14 #[.int .i64 2000, .int .i64 2] w fun e w' => e = .returned (.int .i64 29) ∧ Below w.heap.size w w') := Lib.hid (fun w => dlen_any (y := 2000) (m := 2) (by unfold I64; omega) (by unfold I64; omega))
  clear o1
  go_enter Try.func16, Try.ntmps16
  go_wp2_with fail
  refine (hN.out _).mono ?_
  rintro _ w1 ⟨rfl, b1⟩
  have B1 := Lib.hid b1
  clear b1
  go_wp2_with fail
  refine (hO.out _).mono ?_
  rintro _ w2 ⟨rfl, b2⟩
  have B2 := Lib.hid (below_step B1.out b2)
  clear b2
  go_wp2_with fail
  refine (hL.out _).mono ?_
  rintro _ w3 ⟨rfl, b3⟩
  have B3 : Hid (Below w.heap.size w w3) := Lib.hid (below_step (B2.out.alloc B2.out.size _) b3)
  clear b3
  go_wp2_with fail
  go_ret
  exact ⟨rfl, B3.out⟩
end Go.Proofs.Ytanciheeobgngaa
