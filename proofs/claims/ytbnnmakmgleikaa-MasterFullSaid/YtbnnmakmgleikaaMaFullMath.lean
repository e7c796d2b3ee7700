/-
  Fifty people, hired in an order by steps. Plain and finite facts; no program is named here.
-/
import Derived.Test.YtbnnmakmgleikaaMaLineMath
set_option linter.unusedVariables false
namespace PMa
open Go

/-- The step; who comes next; what is there, whether all went well. -/
def stepOf (s : Nat) : Nat := if (1 + 2 * s) % 5 = 0 then 1 else 1 + 2 * s
structure Run where
  M : List Per
  e : Int
  id : Nat
deriving DecidableEq
def next (k : Nat) (r : Run) : Run :=
  ⟨(hire r.M (((r.id + k) % 50 : Nat) + 1) (rec_ (24276 + ((r.id + k) % 50 : Nat)) 0)).1, if r.e = 0 then (hire r.M (((r.id + k) % 50 : Nat) + 1) (rec_ (24276 + ((r.id + k) % 50 : Nat)) 0)).2 else r.e, (r.id + k) % 50⟩
def runTo (k : Nat) : Nat → Run
  | 0 => ⟨[], 0, 0⟩
  | j + 1 => next k (runTo k j)
def full : List Per := (List.range 50).map fun (i : Nat) => ⟨(i : Int) + 1, 24276 + i, 0, [rec_ (24276 + i) 0], []⟩
theorem run_full : ∀ s < 20, (runTo (stepOf s) 50).M = full ∧ (runTo (stepOf s) 50).e = 0 := by decide +kernel
theorem run_bad (k : Nat) : ∀ (i j : Nat), (runTo k j).e ≠ 0 → (runTo k (j + i)).e ≠ 0
  | 0, j, h => h
  | i + 1, j, h => by
    have := run_bad k i j h
    show (next k (runTo k (j + i))).e ≠ 0
    unfold next
    rw [if_neg this]
    exact this
theorem run_ok {s : Nat} (hs : s < 20) {j : Nat} (hj : j ≤ 50) : (runTo (stepOf s) j).e = 0 := by
  rcases Decidable.em ((runTo (stepOf s) j).e = 0) with h | h
  · exact h
  · have := run_bad _ (50 - j) j h
    rw [show j + (50 - j) = 50 by omega] at this
    exact absurd (run_full s hs).2 this
theorem run_step {s : Nat} (hs : s < 20) {j : Nat} (hj : j < 50) : hire (runTo (stepOf s) j).M ((((runTo (stepOf s) j).id + stepOf s) % 50 : Nat) + 1) (rec_ (24276 + (((runTo (stepOf s) j).id + stepOf s) % 50 : Nat)) 0) = ((runTo (stepOf s) (j + 1)).M, 0) := by
  have h0 := run_ok hs (Nat.le_of_lt hj)
  have h1 : (next (stepOf s) (runTo (stepOf s) j)).e = 0 := run_ok hs (j := j + 1) hj
  unfold next at h1
  rw [if_pos h0] at h1
  exact Prod.ext rfl h1
theorem run_id (k : Nat) : ∀ j, (runTo k j).id < 50
  | 0 => (show (0 : Nat) < 50 by decide)
  | j + 1 => Nat.mod_lt _ (by decide)
theorem run_fine (k : Nat) : ∀ j, Fine (runTo k j).M
  | 0 => Fine.nil
  | j + 1 => fine_hire (run_fine k j) _ _
theorem run_few (k : Nat) : ∀ j, Few 1 (runTo k j).M
  | 0 => Few.nil 1
  | j + 1 => few_hire (run_few k j) (Nat.le_refl 1) _ _
theorem full_fine : Fine full := by
  have h := run_fine (stepOf 0) 50
  rw [(run_full 0 (by decide)).1] at h; exact h
theorem full_few : Few 1 full := by
  have h := run_few (stepOf 0) 50
  rw [(run_full 0 (by decide)).1] at h; exact h
def staffOf (t : Nat) : List Int := (List.range (min (t + 1) 50)).map fun (i : Nat) => (i : Int) + 1
theorem full_staff : ∀ t : Nat, t < 60 → staff full (24276 + (t : Int)) = staffOf t := by decide +kernel
def gone : List Per := (leave full 1 24280).1
theorem full_leave : leave full 1 24280 = (gone, 0) := Prod.ext rfl (by decide +kernel)
theorem full_more : hire full 51 (rec_ 24276 0) = (full, 9) := by decide +kernel
theorem gone_off : at_ gone 1 24280 = (⟨0, 0, 0, 0, 0, 0, false⟩, 5) := by decide +kernel
theorem gone_on : at_ gone 1 24279 = (rec_ 24276 0, 0) := by decide +kernel
theorem gone_fine : Fine gone := fine_leave full_fine 1 24280
theorem gone_few : Few 1 gone := few_leave full_few 1 24280
theorem staff_len (t : Nat) : (staffOf t).length = min (t + 1) 50 := by simp [staffOf]
theorem staff_at {t i : Nat} (h : i < (staffOf t).length) : (staffOf t)[i] = (i : Int) + 1 := by simp [staffOf]
end PMa
