/-
  What rate.Right answers, over any number.
-/
import Derived.Test.YtkmehhhgdeiaeaaDoorBase
namespace Go.Proofs.YtkmehhhgdeiaeaaDoor
open Go.RowKit

theorem rate_yes (b : Int) (w : World) (h : 0 ≤ b ∧ b ≤ 10000) : Calls Tryd.prog 61 #[.int .i64 b] w fun e w' => e = .returned (.bool true) ∧ w = w' := by
  obtain ⟨h0, h1⟩ := h
  go_enter Tryd.func61, Tryd.ntmps61
  go_wp2_with fail
  go_ret
  exact ⟨by simp, rfl⟩
theorem rate_no (b : Int) (w : World) (h : ¬ (0 ≤ b ∧ b ≤ 10000)) : Calls Tryd.prog 61 #[.int .i64 b] w fun e w' => e = .returned (.bool false) ∧ w = w' := by
  by_cases h0 : 0 ≤ b
  · have h1 : ¬ b ≤ 10000 := fun k => h ⟨h0, k⟩
    have h2 : 10000 < b := by omega
    clear h h1
    go_enter Tryd.func61, Tryd.ntmps61
    go_wp2_with fail
    go_ret
    exact ⟨by simp; omega, rfl⟩
  · have h2 : b < 0 := by omega
    clear h h0
    go_enter Tryd.func61, Tryd.ntmps61
    go_wp2_with fail
    go_ret
    exact ⟨rfl, rfl⟩
end Go.Proofs.YtkmehhhgdeiaeaaDoor
