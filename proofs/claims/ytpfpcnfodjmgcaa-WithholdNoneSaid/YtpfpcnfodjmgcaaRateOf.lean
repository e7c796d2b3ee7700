/-
  What rate.Of answers, over any numbers (it asks Prorate).
-/
import Derived.Test.YtpfpcnfodjmgcaaRatePro
namespace Go.Proofs.Ytpfpcnfodjmgcaa
open Go.RowKit

def ofP (a b m : Int) : Int × Int := if 0 ≤ b ∧ b ≤ 10000 then md a b 10000 m else (0, 1)
theorem ofP_prP (a b m : Int) : ofP a b m = prP a b 10000 m := by
  unfold ofP prP
  by_cases h : 0 ≤ b ∧ b ≤ 10000
  · rw [if_pos h, if_pos ⟨by omega, h.1, h.2⟩]
  · rw [if_neg h, if_neg (fun k => h k.2)]

theorem of_at {a b m n e : Int} (h : ofP a b m = (n, e)) (ha : -9223372036854775808 ≤ a) (ha' : a ≤ 9223372036854775807) (w : World) :
    Calls Try.prog 31 #[.int .i64 a, .int .i64 b, .int .i64 m] w fun r w' => r = .returned (.tuple #[.int .i64 n, .int .i64 e]) ∧ Below w.heap.size w w' := by
  rw [ofP_prP] at h
  have M := Lib.hid (prorate_at h ha ha' (by omega) w)
  clear h
  go_enter Try.func31, Try.ntmps31
  go_wp2_with fail
  refine M.out.mono ?_
  rintro _ w1 ⟨rfl, b1⟩
  go_wp2_with fail
  go_ret2
  exact ⟨rfl, b1⟩
end Go.Proofs.Ytpfpcnfodjmgcaa
