/-
  The parts as lists, and what the reference's quotients and comparisons say of them. Plain facts, and two calls.
-/
import Derived.Test.YtmmgejgmlhhfdaaSplitMath
import Derived.Test.YtmmgejgmlhhfdaaRef02Down
import Derived.Test.YtmmgejgmlhhfdaaRef04Above
namespace PSplit
/-- The first k quotients. -/
def qL (T S : Nat) (w : Nat → Nat) (k : Nat) : List Int := (List.range k).map (fun i => ((q T S w i : Nat) : Int))
/-- The first k parts. -/
def pL (T S : Nat) (w : Nat → Nat) (n k : Nat) : List Int := (List.range k).map (fun i => ((part T S w n i : Nat) : Int))
theorem qL_len (T S : Nat) (w : Nat → Nat) (k : Nat) : (qL T S w k).length = k := by simp [qL]
theorem pL_len (T S : Nat) (w : Nat → Nat) (n k : Nat) : (pL T S w n k).length = k := by simp [pL]
theorem qL_get {T S : Nat} {w : Nat → Nat} {k i : Nat} (h : i < k) : (qL T S w k).getD i 0 = ((q T S w i : Nat) : Int) := by simp [qL, List.getD, h]
theorem pL_get {T S : Nat} {w : Nat → Nat} {n k i : Nat} (h : i < k) : (pL T S w n k).getD i 0 = ((part T S w n i : Nat) : Int) := by simp [pL, List.getD, h]
theorem qL_next (T S : Nat) (w : Nat → Nat) (k : Nat) : qL T S w k ++ [((q T S w k : Nat) : Int)] = qL T S w (k + 1) := by simp [qL, List.range_succ]
theorem pL_next (T S : Nat) (w : Nat → Nat) (n k : Nat) : pL T S w n k ++ [((part T S w n k : Nat) : Int)] = pL T S w n (k + 1) := by simp [pL, List.range_succ]
theorem sumN_upto (f : Nat → Nat) {k n : Nat} (h : k ≤ n) : sumN f k ≤ sumN f n := by
  induction n with
  | zero => obtain rfl : k = 0 := by omega
            exact Nat.le_refl _
  | succ n ih =>
    by_cases e : k = n + 1
    · subst e; exact Nat.le_refl _
    · have := ih (by omega); simp only [sumN]; omega
/-- Which of two remainders is greater, without them. -/
theorem cross {T S : Nat} {w : Nat → Nat} (i j : Nat) : ((q T S w j : Nat) : Int) - ((q T S w i : Nat) : Int) = ((q T S w j : Nat) : Int) - ((q T S w i : Nat) : Int) ∧
    decide ((((q T S w j : Nat) : Int) - ((q T S w i : Nat) : Int)) * (S : Int) < (T : Int) * (((w j : Nat) : Int) - ((w i : Nat) : Int))) = decide (rem T S w i < rem T S w j) := by
  refine ⟨rfl, decide_eq_decide.2 ?_⟩
  have hi : ((T * w i : Nat) : Int) = ((S * q T S w i + rem T S w i : Nat) : Int) := by unfold q rem; rw [Nat.div_add_mod]
  have hj : ((T * w j : Nat) : Int) = ((S * q T S w j + rem T S w j : Nat) : Int) := by unfold q rem; rw [Nat.div_add_mod]
  rw [Int.sub_mul, Int.mul_sub]
  rw [Int.natCast_mul, Int.natCast_add, Int.natCast_mul] at hi hj
  rw [Int.mul_comm (S : Int)] at hi hj
  generalize (T : Int) * (w i : Int) = a at *
  generalize (T : Int) * (w j : Int) = b at *
  generalize ((q T S w i : Nat) : Int) * (S : Int) = c at *
  generalize ((q T S w j : Nat) : Int) * (S : Int) = d at *
  omega
theorem q_le_all {T S : Nat} {w : Nat → Nat} {n k : Nat} (hS : sumN w n = S) (h0 : 0 < S) (hk : k < n) : q T S w k ≤ T := Nat.le_trans (le_sumN hk) (q_le hS h0)
end PSplit
namespace Go.Proofs.Ytmmgejgmlhhfdaa
open Go.RowKit

/-- The reference's comparison of two remainders. -/
theorem above_rem (T S n : Nat) (W : Nat → Nat) (A B : Option Addr) (ca cb : Nat) (ws : List Int) (i j : Nat) (w : World) (hA : Sl w A n ws) (hB : Sl w B n (PSplit.qL T S W n)) (hW : ∀ i, i < n → ws.getD i 0 = ((W i : Nat) : Int)) (hi : i < n) (hj : j < n)
    (hT : T ≤ 9223372036854775807) (hS : S ≤ 9223372036854775807) :
    Calls Try.prog 31 #[.int .i64 T, .int .i64 S, .slice A n ca, .slice B n cb, .int .i64 j, .int .i64 i] w fun e w' => e = .returned (.bool (decide (PSplit.rem T S W i < PSplit.rem T S W j))) ∧ Below w.heap.size w w' := by
  refine (above_at T S A B n ca cb ws _ j i w hA hB hj hi (by omega) (by omega) (by omega) (by omega) _ _ _ _ (hW j hj) (hW i hi) (PSplit.qL_get hj) (PSplit.qL_get hi) (by omega) (by omega) (by omega) (by omega)).mono ?_
  rintro e w' ⟨rfl, hb'⟩
  exact ⟨by rw [(PSplit.cross i j).2], hb'⟩
end Go.Proofs.Ytmmgejgmlhhfdaa
