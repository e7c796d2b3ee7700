/-
  The sign of a quotient, told two ways.
-/
import Derived.Test.YtkbfhmdkcfbbgaaDivMath
namespace Go.Proofs.Ytkbfhmdkcfbbgaa

theorem rounded_zero (m c : Nat) (h : 0 < c) : PDigs.rounded m 0 c = 0 := by
  unfold PDigs.rounded
  rw [Nat.zero_div, Nat.zero_mod, if_neg]
  simp [PDigs.upB]
  omega
/-- Both ways to tell the sign. -/
theorem sign_both (a b c : Int) (m : Nat) (hc : c ≠ 0) :
    (if (((decide (a < 0) != decide (b < 0)) && decide (0 < a.natAbs * b.natAbs)) != decide (c < 0)) = true then -((PDigs.rounded m (a.natAbs * b.natAbs) c.natAbs : Nat) : Int) else ((PDigs.rounded m (a.natAbs * b.natAbs) c.natAbs : Nat) : Int)) =
    (if a.sign * b.sign * c.sign < 0 then -((PDigs.rounded m (a.natAbs * b.natAbs) c.natAbs : Nat) : Int) else ((PDigs.rounded m (a.natAbs * b.natAbs) c.natAbs : Nat) : Int)) := by
  by_cases h0 : a.natAbs * b.natAbs = 0
  · rw [h0, rounded_zero m _ (by omega)]; simp
  · have hp : 0 < a.natAbs * b.natAbs := Nat.pos_of_ne_zero h0
    have ha : a ≠ 0 := fun h => h0 (by rw [h]; simp)
    have hb : b ≠ 0 := fun h => h0 (by rw [h]; simp)
    rw [decide_eq_true hp, Bool.and_true]
    generalize PDigs.rounded m (a.natAbs * b.natAbs) c.natAbs = r
    rcases Int.lt_or_gt_of_ne ha with ka | ka <;> rcases Int.lt_or_gt_of_ne hb with kb | kb <;> rcases Int.lt_or_gt_of_ne hc with kc | kc <;>
      simp [ka, kb, kc, Int.sign_eq_neg_one_of_neg, Int.sign_eq_one_of_pos, Int.not_lt.2 (Int.le_of_lt ka), Int.not_lt.2 (Int.le_of_lt kb), Int.not_lt.2 (Int.le_of_lt kc)]
end Go.Proofs.Ytkbfhmdkcfbbgaa
