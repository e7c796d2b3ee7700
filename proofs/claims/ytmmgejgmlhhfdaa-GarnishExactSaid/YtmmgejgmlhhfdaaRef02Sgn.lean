/-
  The reference's Compare of two products of numbers: which of the two is less.
-/
import Derived.Test.YtmmgejgmlhhfdaaRef02Cmp
import Derived.Lib.Small
namespace Go.Proofs.Ytmmgejgmlhhfdaa
open Go.RowKit

/-- The sign of a product, as the reference keeps it. -/
def sgB (a b : Int) : Bool := (decide (a < 0) != decide (b < 0)) && decide (0 < a.natAbs * b.natAbs)
theorem sgB_neg (a b : Int) : sgB a b = decide (a * b < 0) := by
  unfold sgB
  by_cases h0 : a.natAbs * b.natAbs = 0
  · rw [decide_eq_false (p := 0 < a.natAbs * b.natAbs) (by omega), Bool.and_false, decide_eq_false]
    rw [← Int.natAbs_mul, Int.natAbs_eq_zero] at h0
    omega
  · rw [decide_eq_true (p := 0 < a.natAbs * b.natAbs) (by omega), Bool.and_true]
    have ha : a ≠ 0 := fun h => h0 (by rw [h]; simp)
    have hb : b ≠ 0 := fun h => h0 (by rw [h]; simp)
    rcases Int.lt_or_gt_of_ne ha with ka | ka <;> rcases Int.lt_or_gt_of_ne hb with kb | kb
    · rw [decide_eq_true ka, decide_eq_true kb, decide_eq_false (p := a * b < 0) (by have := Int.mul_pos_of_neg_of_neg ka kb; omega)]; rfl
    · rw [decide_eq_true ka, decide_eq_false (p := b < 0) (by omega), decide_eq_true (p := a * b < 0) (Int.mul_neg_of_neg_of_pos ka kb)]; rfl
    · rw [decide_eq_false (p := a < 0) (by omega), decide_eq_true kb, decide_eq_true (p := a * b < 0) (Int.mul_neg_of_pos_of_neg ka kb)]; rfl
    · rw [decide_eq_false (p := a < 0) (by omega), decide_eq_false (p := b < 0) (by omega), decide_eq_false (p := a * b < 0) (by have := Int.mul_pos ka kb; omega)]; rfl
theorem cmpS_is (a b c d : Int) : cmpS (sgB a b) (sgB c d) (a.natAbs * b.natAbs) (c.natAbs * d.natAbs) = Lib.compareInt (a * b) (c * d) := by
  rw [sgB_neg, sgB_neg, ← Int.natAbs_mul, ← Int.natAbs_mul]
  generalize a * b = x
  generalize c * d = y
  unfold cmpS PDigs.cmp Lib.compareInt
  by_cases hx : x < 0 <;> by_cases hy : y < 0 <;> simp only [hx, hy, decide_true, decide_false] <;> (repeat' split) <;> first | rfl | (exfalso; omega) | (exfalso; simp_all) | omega
theorem compare_pos (x y : Int) : 0 < Lib.compareInt x y ↔ y < x := by unfold Lib.compareInt; (repeat' split) <;> omega
end Go.Proofs.Ytmmgejgmlhhfdaa
