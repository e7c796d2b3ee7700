/-
  The reference's quotient of numbers not below 0, rounded down.
-/
import Derived.Test.YtmmgejgmlhhfdaaRoundMath
import Derived.Test.YtmmgejgmlhhfdaaRef02Div
namespace Go.Proofs.Ytmmgejgmlhhfdaa
open Go.RowKit

/-- The reference's quotient of numbers not below 0, rounded down. -/
theorem refdiv_down (a b c : Nat) (w : World) (ha : a ≤ 9223372036854775807) (hb : b ≤ 9223372036854775807) (hc : c ≤ 9223372036854775807) (hc0 : 0 < c) (hq : a * b / c ≤ 9223372036854775807) :
    Calls Try.prog 30 #[.int .i64 a, .int .i64 b, .int .i64 c, .int .i64 0] w fun e w' => e = .returned (.tuple #[.int .i64 ((a * b / c : Nat) : Int), .bool true]) ∧ Below w.heap.size w w' := by
  refine (refdiv_any a b c 0 w (by omega) (by omega) (by omega) (by omega) (by omega) (by omega) (by omega) (by omega)).mono ?_
  rintro e w' ⟨rfl, hb'⟩
  refine ⟨?_, hb'⟩
  rw [divAns_yes (n := ((a * b / c : Nat) : Int))]
  · rw [PDigs.rounded_down]; simpa using hq
  · rw [PDigs.rounded_down]
    have e1 : decide (((a : Nat) : Int) < 0) = false := decide_eq_false (by omega)
    have e2 : decide (((b : Nat) : Int) < 0) = false := decide_eq_false (by omega)
    have e3 : decide (((c : Nat) : Int) < 0) = false := decide_eq_false (by omega)
    rw [e1, e2, e3]
    simp
end Go.Proofs.Ytmmgejgmlhhfdaa
