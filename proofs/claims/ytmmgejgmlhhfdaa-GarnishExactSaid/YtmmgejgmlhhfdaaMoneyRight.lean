/-
  What money.Right answers.
-/
import Derived.Test.YtmmgejgmlhhfdaaBase
namespace Go.Proofs.Ytmmgejgmlhhfdaa
open Go.RowKit

set_option maxHeartbeats 400000 in
theorem right_yes (a : Int) (w : World) (h : -9223372036854775807 ≤ a) :
    Calls Try.prog 62 #[.int .i64 a] w fun e w' => e = .returned (.bool true) ∧ w = w' := by
  go_enter Try.func62, Try.ntmps62
  go_wp2
  go_ret
  exact ⟨by simp, rfl⟩
set_option maxHeartbeats 400000 in
theorem right_no (a : Int) (w : World) (h : a < -9223372036854775807) :
    Calls Try.prog 62 #[.int .i64 a] w fun e w' => e = .returned (.bool false) ∧ w = w' := by
  go_enter Try.func62, Try.ntmps62
  go_wp2
  go_ret
  exact ⟨by simp; exact h, rfl⟩
end Go.Proofs.Ytmmgejgmlhhfdaa
