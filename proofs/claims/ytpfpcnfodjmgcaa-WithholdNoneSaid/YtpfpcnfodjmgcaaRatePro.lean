/-
  What rate.Prorate answers, over any numbers.
-/
import Derived.Test.YtpfpcnfodjmgcaaWideDiv
namespace Go.Proofs.Ytpfpcnfodjmgcaa
open Go.RowKit

def prP (a p q m : Int) : Int × Int := if 1 ≤ q ∧ 0 ≤ p ∧ p ≤ q then md a p q m else (0, 1)
theorem prorate_at {a p q m n e : Int} (h : prP a p q m = (n, e)) (ha : -9223372036854775808 ≤ a) (ha' : a ≤ 9223372036854775807) (hq' : q ≤ 9223372036854775807) (w : World) :
    Calls Try.prog 38 #[.int .i64 a, .int .i64 p, .int .i64 q, .int .i64 m] w fun r w' => r = .returned (.tuple #[.int .i64 n, .int .i64 e]) ∧ Below w.heap.size w w' := by
  unfold prP at h
  by_cases hb : 1 ≤ q ∧ 0 ≤ p ∧ p ≤ q
  · rw [if_pos hb] at h
    have M := Lib.hid (muldiv_at h ha ha' (by omega) (by omega) (by omega) (by omega))
    clear h
    obtain ⟨b0, b2, b3⟩ := hb
    go_enter Try.func38, Try.ntmps38
    go_wp2_with fail
    refine (M.out _).mono ?_
    rintro _ w1 ⟨rfl, b1⟩
    go_wp2_with fail
    go_ret2
    exact ⟨rfl, b1⟩
  · rw [if_neg hb] at h
    obtain ⟨rfl, rfl⟩ := Prod.mk.inj h
    clear h
    by_cases h1 : q < 1
    · clear hb
      go_enter Try.func38, Try.ntmps38
      go_wp2_with fail
      go_ret2
      exact ⟨rfl, Below.refl _ _⟩
    · by_cases h2 : p < 0
      · clear hb
        go_enter Try.func38, Try.ntmps38
        go_wp2_with fail
        go_ret2
        exact ⟨rfl, Below.refl _ _⟩
      · have h3 : q < p := by omega
        clear hb
        go_enter Try.func38, Try.ntmps38
        go_wp2_with fail
        go_ret2
        exact ⟨rfl, Below.refl _ _⟩
end Go.Proofs.Ytpfpcnfodjmgcaa
