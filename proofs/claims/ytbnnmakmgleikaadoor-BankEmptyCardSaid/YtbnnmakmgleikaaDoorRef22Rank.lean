/-
  Which kind of payment stands first: what the reference of layer 22 answers.
-/
import Derived.Test.YtbnnmakmgleikaaDoorBkRight
set_option linter.unusedVariables false
namespace Go.Proofs.YtbnnmakmgleikaaDoor
open Go.RowKit
open PBank (Pay)

/-- 0 of a person's payment, 1 of any other one. -/
def rkV (p : Pay) : Int := if p.kind = 69 then 0 else 1
set_option maxHeartbeats 3200000 in
theorem r22rank_any (p : Pay) (w : World) : Calls Tryd.prog 21 #[.agg #[.int .u8 p.kind, .int .i64 p.num, .int .i64 p.amt]] w (IntB (rkV p) w) := by
  obtain ⟨Q, hQ⟩ : ∃ Q, IntB (rkV p) w = Q := ⟨_, rfl⟩
  rw [hQ]
  obtain ⟨k, z, a⟩ := p
  obtain ⟨w1, hw1, XB, b1⟩ : ∃ w1, w.alloc (.cells #[.int .u8 k, .int .i64 z, .int .i64 a] 63) = w1 ∧ Box w1 w.heap.size [.int .u8 k, .int .i64 z, .int .i64 a] ∧ Below w.heap.size w w1 := ⟨_, rfl, Box.new _ _ [.int .u8 k, .int .i64 z, .int .i64 a], (Below.refl _ _).alloc (Nat.le_refl _) _⟩
  obtain ⟨x0, x1, x2⟩ := b3 XB
  have hsx := XB.1
  have HW1 := Lib.hid hw1
  by_cases h : k = 69
  · have F : Q (.returned (.int .i64 0)) w1 := by
      rw [← hQ]; refine ⟨?_, b1⟩; unfold rkV; rw [if_pos h]
    have F := Lib.hid F
    subst h
    clear hQ XB b1 hw1
    go_enter Tryd.func21, Tryd.ntmps21
    go_upto_region 1 with fail
    rw [HW1.out]
    go_wp2_with fail
    exact F.out
  · have F : Q (.returned (.int .i64 1)) w1 := by
      rw [← hQ]; refine ⟨?_, b1⟩; unfold rkV; rw [if_neg h]
    have F := Lib.hid F
    clear hQ XB b1 hw1
    go_enter Tryd.func21, Tryd.ntmps21
    go_upto_region 1 with fail
    rw [HW1.out]
    go_wp2_with fail
    exact F.out
end Go.Proofs.YtbnnmakmgleikaaDoor
