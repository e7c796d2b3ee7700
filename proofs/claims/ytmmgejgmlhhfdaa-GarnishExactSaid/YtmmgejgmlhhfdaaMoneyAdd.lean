/-
  What money.Add answers: for any two numbers.
-/
import Derived.Test.YtmmgejgmlhhfdaaMoneyRight
import Derived.Test.YtmmgejgmlhhfdaaSumMath
import Derived.WalkKit
import Derived.Lib.Hide
namespace Go.Proofs.Ytmmgejgmlhhfdaa
open Go.RowKit

set_option maxHeartbeats 400000 in
theorem add_ok (a b : Int) (w : World) (ha : -9223372036854775807 ≤ a) (hb : -9223372036854775807 ≤ b) (hb' : b ≤ 9223372036854775807) (h : -9223372036854775807 ≤ a + b) (h' : a + b ≤ 9223372036854775807) :
    Calls Try.prog 61 #[.int .i64 a, .int .i64 b] w fun e w' => e = .returned (.tuple #[.int .i64 (a + b), .int .i64 0]) ∧ w = w' := by
  go_enter Try.func61, Try.ntmps61
  go_wp2_with (go_at_call 62; refine (right_yes _ _ (by omega)).mono ?_; rintro e w' ⟨rfl, rfl⟩)
  all_goals go_ret2
  all_goals exact ⟨rfl, rfl⟩

set_option maxHeartbeats 400000 in
theorem add_no1 (a b : Int) (w : World) (ha : a < -9223372036854775807) :
    Calls Try.prog 61 #[.int .i64 a, .int .i64 b] w fun e w' => e = .returned (.tuple #[.int .i64 0, .int .i64 3]) ∧ w = w' := by
  go_enter Try.func61, Try.ntmps61
  go_wp2_with (go_at_call 62; refine (right_no _ _ (by omega)).mono ?_; rintro e w' ⟨rfl, rfl⟩)
  all_goals go_ret2
  all_goals exact ⟨rfl, rfl⟩
set_option maxHeartbeats 400000 in
theorem add_no2 (a b : Int) (w : World) (ha : -9223372036854775807 ≤ a) (hb : b < -9223372036854775807) :
    Calls Try.prog 61 #[.int .i64 a, .int .i64 b] w fun e w' => e = .returned (.tuple #[.int .i64 0, .int .i64 3]) ∧ w = w' := by
  go_enter Try.func61, Try.ntmps61
  go_wp2_with fail
  refine (right_yes _ _ ha).mono ?_
  rintro e w' ⟨rfl, rfl⟩
  go_wp2_with fail
  refine (right_no _ _ hb).mono ?_
  rintro e w' ⟨rfl, rfl⟩
  go_wp2
  all_goals go_ret2
  all_goals exact ⟨rfl, rfl⟩
set_option maxHeartbeats 400000 in
theorem add_no3 (a b : Int) (w : World) (ha : -9223372036854775807 ≤ a) (ha' : a ≤ 9223372036854775807) (hb : -9223372036854775807 ≤ b) (hb' : b ≤ 9223372036854775807) (h : a + b < -9223372036854775807 ∨ 9223372036854775807 < a + b) :
    Calls Try.prog 61 #[.int .i64 a, .int .i64 b] w fun e w' => e = .returned (.tuple #[.int .i64 0, .int .i64 3]) ∧ w = w' := by
  rcases h with h | h
  · have hb1 : b < 0 := by omega
    have hb2 : a < -9223372036854775807 - b := by omega
    go_enter Try.func61, Try.ntmps61
    go_wp2_with (go_at_call 62; refine (right_yes _ _ (by omega)).mono ?_; rintro e w' ⟨rfl, rfl⟩)
    all_goals go_ret2
    all_goals exact ⟨rfl, rfl⟩
  · have hb1 : 0 < b := by omega
    have hb2 : 9223372036854775807 - b < a := by omega
    go_enter Try.func61, Try.ntmps61
    go_wp2_with (go_at_call 62; refine (right_yes _ _ (by omega)).mono ?_; rintro e w' ⟨rfl, rfl⟩)
    all_goals go_ret2
    all_goals exact ⟨rfl, rfl⟩


theorem add_no (a b : Int) (w : World) (ha : -9223372036854775808 ≤ a) (ha' : a ≤ 9223372036854775807) (hb : -9223372036854775808 ≤ b) (hb' : b ≤ 9223372036854775807) (h : ¬ Adds a b) :
    Calls Try.prog 61 #[.int .i64 a, .int .i64 b] w fun e w' => e = .returned (.tuple #[.int .i64 0, .int .i64 3]) ∧ w = w' := by
  unfold Adds at h
  by_cases h1 : a < -9223372036854775807
  · exact add_no1 a b w h1
  by_cases h2 : b < -9223372036854775807
  · exact add_no2 a b w (by omega) h2
  · exact add_no3 a b w (by omega) ha' (by omega) hb' (by omega)
theorem add_yes (a b : Int) (w : World) (hb' : b ≤ 9223372036854775807) (h : Adds a b) :
    Calls Try.prog 61 #[.int .i64 a, .int .i64 b] w fun e w' => e = .returned (.tuple #[.int .i64 (a + b), .int .i64 0]) ∧ w = w' :=
  add_ok a b w h.1 h.2.1 hb' h.2.2.1 h.2.2.2
end Go.Proofs.Ytmmgejgmlhhfdaa
