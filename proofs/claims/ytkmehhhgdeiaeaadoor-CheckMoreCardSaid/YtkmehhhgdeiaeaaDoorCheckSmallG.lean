/-
  What the landed check answers of kinds alone: common, oneOf, product, flag.
-/
import Derived.Test.YtkmehhhgdeiaeaaDoorCheckRowsG
import Derived.Test.YtkmehhhgdeiaeaaDoorShelf
import Derived.Test.YtkmehhhgdeiaeaaDoorCM
import Derived.Handy
namespace Go.Proofs.YtkmehhhgdeiaeaaDoor
open Go.RowKit

theorem kcommon_any (a b : Int) (w : World) : Calls Tryd.prog 42 #[.int .i64 a, .int .i64 b] w fun e w' => e = .returned (.int .i64 (PCheck.common a b)) ∧ w = w' := by
  by_cases h : a = b
  · subst h
    have h1 : (a != a) = false := by simp
    go_enter Tryd.func42, Tryd.ntmps42
    go_wp2_with fail
    go_ret
    exact ⟨by unfold PCheck.common; rw [if_pos rfl]; rfl, rfl⟩
  · have h1 : (a != b) = true := by rw [bne_iff_ne]; exact h
    have HR : Hid (PCheck.common a b = 0) := Lib.hid (by unfold PCheck.common; rw [if_neg h])
    clear h
    go_enter Tryd.func42, Tryd.ntmps42
    go_wp2_with fail
    go_ret
    exact ⟨by rw [HR.out]; rfl, rfl⟩
theorem kflag_any (k : Int) (w : World) : Calls Tryd.prog 44 #[.int .i64 k] w fun e w' => e = .returned (.int .i64 (PCheck.flag k)) ∧ w = w' := by
  by_cases h : k = 0
  · subst h
    go_enter Tryd.func44, Tryd.ntmps44
    go_wp2_with fail
    go_ret
    exact ⟨rfl, rfl⟩
  · have h1 : (k == 0) = false := by rw [beq_eq_false_iff_ne]; exact h
    have HR : Hid (PCheck.flag k = 4) := Lib.hid (by unfold PCheck.flag; rw [if_neg h])
    clear h
    go_enter Tryd.func44, Tryd.ntmps44
    go_wp2_with fail
    go_ret
    exact ⟨by rw [HR.out]; rfl, rfl⟩
theorem koneOf_any {w : World} (b n c : Nat) (zs : List Int) (k : Int) (hn : n = zs.length) (hbig : n ≤ 1000) (hc : ∀ j, j < zs.length → w.cell? ⟨b, 0 + j, none⟩ = some (.int .i64 (zs.getD j 0))) :
    Calls Tryd.prog 27 #[.int .i64 k, .slice (some ⟨b, 0, none⟩) n c] w fun e w' => e = .returned (.int .i64 (PCheck.oneOf k zs)) ∧ w = w' := by
  have H := Lib.hid (Tryd.slices_Contains_int b 0 n c zs k w (Nat.le_of_eq hn) (by omega) hc)
  have ht : zs.take n = zs := by rw [hn]; exact List.take_length
  rw [ht] at H
  clear hc ht hn
  by_cases h : k ∈ zs
  · have h1 : zs.contains k = true := List.contains_iff_mem.2 h
    have HR : Hid (PCheck.oneOf k zs = k) := Lib.hid (by unfold PCheck.oneOf; rw [if_pos h])
    rw [h1] at H
    clear h h1
    go_enter Tryd.func27, Tryd.ntmps27
    go_wp2_with fail
    refine (H.out).mono ?_
    rintro _ _ ⟨rfl, rfl⟩
    go_wp2_with fail
    go_ret
    exact ⟨by rw [HR.out]; rfl, rfl⟩
  · have h1 : zs.contains k = false := by rw [Bool.eq_false_iff]; exact fun e => h (List.contains_iff_mem.1 e)
    have HR : Hid (PCheck.oneOf k zs = 0) := Lib.hid (by unfold PCheck.oneOf; rw [if_neg h])
    rw [h1] at H
    clear h h1
    go_enter Tryd.func27, Tryd.ntmps27
    go_wp2_with fail
    refine (H.out).mono ?_
    rintro _ _ ⟨rfl, rfl⟩
    go_wp2_with fail
    go_ret
    exact ⟨by rw [HR.out]; rfl, rfl⟩
theorem four_cases {k : Int} (h : PCheck.Four k) : k = 0 ∨ k = 1 ∨ k = 2 ∨ k = 3 ∨ k = 4 := h
set_option maxHeartbeats 1600000 in
theorem kproduct_any {a b : Int} (ha : PCheck.Four a) (hb : PCheck.Four b) (w : World) : Calls Tryd.prog 43 #[.int .i64 a, .int .i64 b] w fun e w' => e = .returned (.int .i64 (PCheck.product a b)) ∧ w = w' := by
  rcases ha with rfl | rfl | rfl | rfl | rfl <;> rcases hb with rfl | rfl | rfl | rfl | rfl
  all_goals
    go_enter Tryd.func43, Tryd.ntmps43
    go_wp2_with fail
    go_ret
    exact ⟨rfl, rfl⟩
end Go.Proofs.YtkmehhhgdeiaeaaDoor
