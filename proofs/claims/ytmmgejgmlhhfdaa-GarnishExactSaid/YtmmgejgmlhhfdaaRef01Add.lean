/-
  What the reference's Right and Add answer: as layer 1's do.
-/
import Derived.Test.YtmmgejgmlhhfdaaSumMath
namespace Go.Proofs.Ytmmgejgmlhhfdaa
open Go.RowKit

set_option maxHeartbeats 400000 in
theorem refright_yes (a : Int) (w : World) (h : -9223372036854775807 ≤ a) :
    Calls Try.prog 69 #[.int .i64 a] w fun e w' => e = .returned (.bool true) ∧ w = w' := by
  have hb : (a != -9223372036854775808) = true := by rw [bne_iff_ne]; omega
  go_enter Try.func69, Try.ntmps69
  go_wp2
  go_ret
  exact ⟨rfl, rfl⟩
set_option maxHeartbeats 400000 in
theorem refright_no (a : Int) (w : World) (h0 : -9223372036854775808 ≤ a) (h : a < -9223372036854775807) :
    Calls Try.prog 69 #[.int .i64 a] w fun e w' => e = .returned (.bool false) ∧ w = w' := by
  have hb : (a != -9223372036854775808) = false := by rw [bne_eq_false_iff_eq]; omega
  go_enter Try.func69, Try.ntmps69
  go_wp2
  go_ret
  exact ⟨rfl, rfl⟩

set_option maxHeartbeats 400000 in
theorem refadd_ok (a b : Int) (w : World) (ha : -9223372036854775807 ≤ a) (hb : -9223372036854775807 ≤ b) (hb' : b ≤ 9223372036854775807) (h : -9223372036854775807 ≤ a + b) (h' : a + b ≤ 9223372036854775807) :
    Calls Try.prog 41 #[.int .i64 a, .int .i64 b] w fun e w' => e = .returned (.tuple #[.int .i64 (a + b), .bool true]) ∧ w = w' := by
  go_enter Try.func41, Try.ntmps41
  go_wp2_with (go_at_call 69; refine (refright_yes _ _ (by omega)).mono ?_; rintro e w' ⟨rfl, rfl⟩)
  all_goals go_ret2
  all_goals exact ⟨rfl, rfl⟩
set_option maxHeartbeats 400000 in
theorem refadd_no1 (a b : Int) (w : World) (h0 : -9223372036854775808 ≤ a) (ha : a < -9223372036854775807) :
    Calls Try.prog 41 #[.int .i64 a, .int .i64 b] w fun e w' => e = .returned (.tuple #[.int .i64 0, .bool false]) ∧ w = w' := by
  go_enter Try.func41, Try.ntmps41
  go_wp2_with (go_at_call 69; refine (refright_no _ _ (by omega) (by omega)).mono ?_; rintro e w' ⟨rfl, rfl⟩)
  all_goals go_ret2
  all_goals exact ⟨rfl, rfl⟩
set_option maxHeartbeats 400000 in
theorem refadd_no2 (a b : Int) (w : World) (ha : -9223372036854775807 ≤ a) (h0 : -9223372036854775808 ≤ b) (hb : b < -9223372036854775807) :
    Calls Try.prog 41 #[.int .i64 a, .int .i64 b] w fun e w' => e = .returned (.tuple #[.int .i64 0, .bool false]) ∧ w = w' := by
  go_enter Try.func41, Try.ntmps41
  go_wp2_with fail
  refine (refright_yes _ _ ha).mono ?_
  rintro e w' ⟨rfl, rfl⟩
  go_wp2_with fail
  refine (refright_no _ _ h0 hb).mono ?_
  rintro e w' ⟨rfl, rfl⟩
  go_wp2
  all_goals go_ret2
  all_goals exact ⟨rfl, rfl⟩
set_option maxHeartbeats 400000 in
theorem refadd_no3 (a b : Int) (w : World) (ha : -9223372036854775807 ≤ a) (ha' : a ≤ 9223372036854775807) (hb : -9223372036854775807 ≤ b) (hb' : b ≤ 9223372036854775807) (h : a + b < -9223372036854775807 ∨ 9223372036854775807 < a + b) :
    Calls Try.prog 41 #[.int .i64 a, .int .i64 b] w fun e w' => e = .returned (.tuple #[.int .i64 0, .bool false]) ∧ w = w' := by
  rcases h with h | h
  · have hb1 : b < 0 := by omega
    have hb2 : a < -9223372036854775807 - b := by omega
    go_enter Try.func41, Try.ntmps41
    go_wp2_with (go_at_call 69; refine (refright_yes _ _ (by omega)).mono ?_; rintro e w' ⟨rfl, rfl⟩)
    all_goals go_ret2
    all_goals exact ⟨rfl, rfl⟩
  · have hb1 : 0 < b := by omega
    have hb2 : 9223372036854775807 - b < a := by omega
    go_enter Try.func41, Try.ntmps41
    go_wp2_with (go_at_call 69; refine (refright_yes _ _ (by omega)).mono ?_; rintro e w' ⟨rfl, rfl⟩)
    all_goals go_ret2
    all_goals exact ⟨rfl, rfl⟩
theorem refadd_no (a b : Int) (w : World) (ha : -9223372036854775808 ≤ a) (ha' : a ≤ 9223372036854775807) (hb : -9223372036854775808 ≤ b) (hb' : b ≤ 9223372036854775807) (h : ¬ Adds a b) :
    Calls Try.prog 41 #[.int .i64 a, .int .i64 b] w fun e w' => e = .returned (.tuple #[.int .i64 0, .bool false]) ∧ w = w' := by
  unfold Adds at h
  by_cases h1 : a < -9223372036854775807
  · exact refadd_no1 a b w ha h1
  by_cases h2 : b < -9223372036854775807
  · exact refadd_no2 a b w (by omega) hb h2
  · exact refadd_no3 a b w (by omega) ha' (by omega) hb' (by omega)
theorem refadd_yes (a b : Int) (w : World) (hb' : b ≤ 9223372036854775807) (h : Adds a b) :
    Calls Try.prog 41 #[.int .i64 a, .int .i64 b] w fun e w' => e = .returned (.tuple #[.int .i64 (a + b), .bool true]) ∧ w = w' :=
  refadd_ok a b w h.1 h.2.1 hb' h.2.2.1 h.2.2.2
end Go.Proofs.Ytmmgejgmlhhfdaa
