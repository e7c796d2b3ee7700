/-
  What rate.Right answers, over any number.
  What money.Right answers.
  A list that is turned round by swaps from both ends. Plain facts; no program is named here.
-/
import Derived.Test.YtdkcdgjpcojdfaaGreatDoorBase

namespace Go.Proofs.YtdkcdgjpcojdfaaGreatDoor
open Go.RowKit

theorem rate_yes (b : Int) (w : World) (h : 0 ≤ b ∧ b ≤ 10000) : Calls Tryz.prog 103 #[.int .i64 b] w fun e w' => e = .returned (.bool true) ∧ w = w' := by
  obtain ⟨h0, h1⟩ := h
  go_enter Tryz.func103, Tryz.ntmps103
  go_wp2_with fail
  go_ret
  exact ⟨by simp, rfl⟩
theorem rate_no (b : Int) (w : World) (h : ¬ (0 ≤ b ∧ b ≤ 10000)) : Calls Tryz.prog 103 #[.int .i64 b] w fun e w' => e = .returned (.bool false) ∧ w = w' := by
  by_cases h0 : 0 ≤ b
  · have h1 : ¬ b ≤ 10000 := fun k => h ⟨h0, k⟩
    have h2 : 10000 < b := by omega
    clear h h1
    go_enter Tryz.func103, Tryz.ntmps103
    go_wp2_with fail
    go_ret
    exact ⟨by simp; omega, rfl⟩
  · have h2 : b < 0 := by omega
    clear h h0
    go_enter Tryz.func103, Tryz.ntmps103
    go_wp2_with fail
    go_ret
    exact ⟨rfl, rfl⟩
end Go.Proofs.YtdkcdgjpcojdfaaGreatDoor

namespace Go.Proofs.YtdkcdgjpcojdfaaGreatDoor
open Go.RowKit

set_option maxHeartbeats 400000 in
theorem right_yes (a : Int) (w : World) (h : -9223372036854775807 ≤ a) :
    Calls Tryz.prog 131 #[.int .i64 a] w fun e w' => e = .returned (.bool true) ∧ w = w' := by
  go_enter Tryz.func131, Tryz.ntmps131
  go_wp2
  go_ret
  exact ⟨by simp, rfl⟩
set_option maxHeartbeats 400000 in
theorem right_no (a : Int) (w : World) (h : a < -9223372036854775807) :
    Calls Tryz.prog 131 #[.int .i64 a] w fun e w' => e = .returned (.bool false) ∧ w = w' := by
  go_enter Tryz.func131, Tryz.ntmps131
  go_wp2
  go_ret
  exact ⟨by simp; exact h, rfl⟩
end Go.Proofs.YtdkcdgjpcojdfaaGreatDoor

namespace Rev
variable {α : Type}
def Rv (l : List α) (k : Nat) (L : List α) : Prop := L.length = l.length ∧ ∀ i, i < l.length → L[i]? = if i < k ∨ l.length - k ≤ i then l[l.length - 1 - i]? else l[i]?
theorem rv_zero (l : List α) : Rv l 0 l := ⟨rfl, fun i hi => by rw [if_neg (by omega)]⟩
theorem rv_lo {l L : List α} {k : Nat} (h : Rv l k L) (hk : k < l.length - 1 - k) : L[k]? = l[k]? := by
  rw [h.2 k (by omega), if_neg (by omega)]
theorem rv_hi {l L : List α} {k : Nat} (h : Rv l k L) (hk : k < l.length - 1 - k) : L[l.length - 1 - k]? = l[l.length - 1 - k]? := by
  rw [h.2 _ (by omega), if_neg (by omega)]
theorem rv_step {l L : List α} {k : Nat} (h : Rv l k L) (hk : k < l.length - 1 - k) {x y : α} (hx : L[k]? = some x) (hy : L[l.length - 1 - k]? = some y) : Rv l (k + 1) ((L.set k y).set (l.length - 1 - k) x) := by
  have hx2 : l[k]? = some x := (rv_lo h hk).symm.trans hx
  have hy2 : l[l.length - 1 - k]? = some y := (rv_hi h hk).symm.trans hy
  refine ⟨by rw [List.length_set, List.length_set]; exact h.1, fun i hi => ?_⟩
  by_cases e1 : i = l.length - 1 - k
  · subst e1
    rw [List.getElem?_set_self (by rw [List.length_set, h.1]; omega), if_pos (by omega), ← hx2]
    congr 1; omega
  · rw [List.getElem?_set_ne (Ne.symm e1)]
    by_cases e2 : i = k
    · subst e2
      rw [List.getElem?_set_self (by rw [h.1]; omega), if_pos (by omega), hy2]
    · rw [List.getElem?_set_ne (Ne.symm e2), h.2 i hi]
      by_cases c : i < k ∨ l.length - k ≤ i
      · rw [if_pos c, if_pos (by omega)]
      · rw [if_neg c, if_neg (by omega)]
theorem rv_end {l L : List α} {k : Nat} (h : Rv l k L) (hk : ¬ k < l.length - 1 - k) : L = l.reverse := by
  apply List.ext_getElem?
  intro i
  by_cases hi : i < l.length
  · rw [h.2 i hi, List.getElem?_reverse hi]
    by_cases c : i < k ∨ l.length - k ≤ i
    · rw [if_pos c]
    · rw [if_neg c]
      congr 1; omega
  · rw [List.getElem?_eq_none (by rw [h.1]; omega), List.getElem?_eq_none (by rw [List.length_reverse]; omega)]
end Rev
