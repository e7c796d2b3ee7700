/-
  Sums of amounts, one by one: plain facts.
-/
import Derived.Test.YtmmgejgmlhhfdaaBase
namespace Go.Proofs.Ytmmgejgmlhhfdaa
open Go.RowKit

/-- Two numbers, and what comes, are amounts. -/
def Adds (a b : Int) : Prop := -9223372036854775807 ≤ a ∧ -9223372036854775807 ≤ b ∧ -9223372036854775807 ≤ a + b ∧ a + b ≤ 9223372036854775807

instance (a b : Int) : Decidable (Adds a b) := by unfold Adds; infer_instance

/-- The sum, one by one. -/
def sumFrom (s : Int) : List Int → Option Int
  | [] => some s
  | k :: r => if Adds s k then sumFrom (s + k) r else none
def sumV (l : List Int) : Value := match sumFrom 0 l with
  | some n => .tuple #[.int .i64 n, .int .i64 0]
  | none => .tuple #[.int .i64 0, .int .i64 3]
theorem sumV_some {l : List Int} {n : Int} (h : sumFrom 0 l = some n) : sumV l = .tuple #[.int .i64 n, .int .i64 0] := by unfold sumV; rw [h]
theorem sumV_none {l : List Int} (h : sumFrom 0 l = none) : sumV l = .tuple #[.int .i64 0, .int .i64 3] := by unfold sumV; rw [h]
theorem sumFrom_append (s : Int) (a b : List Int) : sumFrom s (a ++ b) = (sumFrom s a).bind fun t => sumFrom t b := by
  induction a generalizing s with
  | nil => rfl
  | cons k r ih =>
    simp only [List.cons_append, sumFrom]
    by_cases h : Adds s k
    · rw [if_pos h, if_pos h, ih]
    · rw [if_neg h, if_neg h]; rfl
theorem take_snocI (l : List Int) (k : Nat) (h : k < l.length) : l.take (k + 1) = l.take k ++ [l.getD k 0] := by
  rw [List.take_succ_eq_append_getElem h]; simp [List.getD, h]
theorem sum_next {l : List Int} {j : Nat} {s : Int} (h : j < l.length) (hs : sumFrom 0 (l.take j) = some s) (ha : Adds s (l.getD j 0)) : sumFrom 0 (l.take (j + 1)) = some (s + l.getD j 0) := by
  rw [take_snocI l j h, sumFrom_append, hs, Option.bind_some]; simp only [sumFrom]; rw [if_pos ha]
theorem sum_fail {l : List Int} {j : Nat} {s : Int} (h : j < l.length) (hs : sumFrom 0 (l.take j) = some s) (ha : ¬ Adds s (l.getD j 0)) : sumFrom 0 l = none := by
  have e : l = l.take j ++ l.getD j 0 :: l.drop (j + 1) := by
    conv => lhs; rw [← List.take_append_drop (j + 1) l, take_snocI l j h]
    simp
  rw [e, sumFrom_append, hs, Option.bind_some]; simp only [sumFrom]; rw [if_neg ha]
end Go.Proofs.Ytmmgejgmlhhfdaa
