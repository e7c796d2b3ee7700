/-
  What the reference's Right answers.
-/
import Derived.Test.YtdbadgnoognnnaaBase
namespace Go.Proofs.Ytdbadgnoognnnaa
open Go.RowKit

theorem refright_any (a : Int) (w : World) : Calls Try.prog 15 #[.int .i64 a] w fun e w' => e = .returned (.bool (a != -9223372036854775808)) ∧ w = w' := by
  go_enter Try.func15, Try.ntmps15
  go_wp2
  go_ret
  exact ⟨rfl, rfl⟩
theorem refright_yes' (a : Int) (w : World) (h : -9223372036854775807 ≤ a) : Calls Try.prog 15 #[.int .i64 a] w fun e w' => e = .returned (.bool true) ∧ w = w' :=
  (refright_any a w).mono fun _ _ ⟨k, l⟩ => ⟨by rw [k, show (a != -9223372036854775808) = true by rw [bne_iff_ne]; omega], l⟩
theorem refright_no' (a : Int) (w : World) (h : a = -9223372036854775808) : Calls Try.prog 15 #[.int .i64 a] w fun e w' => e = .returned (.bool false) ∧ w = w' :=
  (refright_any a w).mono fun _ _ ⟨k, l⟩ => ⟨by rw [k, show (a != -9223372036854775808) = false by rw [bne_eq_false_iff_eq]; exact h], l⟩
end Go.Proofs.Ytdbadgnoognnnaa
