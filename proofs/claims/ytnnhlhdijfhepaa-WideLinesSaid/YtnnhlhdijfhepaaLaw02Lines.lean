/-
  WideLines: a greater number has no smaller quotient, by any mode; twice the number by twice the divisor is the same.
-/
import Derived.Test.YtnnhlhdijfhepaaLaw02Math
namespace Go.Proofs.Ytnnhlhdijfhepaa
open Go.RowKit

set_option maxHeartbeats 1600000 in
theorem lines_in (a mo b c u n e k f o g : Int) (w : World) (ha : 0 ≤ a) (ha' : a ≤ 18446744073709551615) (hmo : 0 ≤ mo) (hmo' : mo ≤ 18446744073709551615) (hb : 0 ≤ b) (hb' : b ≤ 18446744073709551615) (hc : 0 ≤ c) (hc' : c ≤ 18446744073709551615) (hu : 0 ≤ u) (hu' : u ≤ 255)
    (hn : md (a / 8) (b / 4) (1 + c / 8) (u % 4) = (n, e)) (hk : md (a / 8 + mo / 8) (b / 4) (1 + c / 8) (u % 4) = (k, f)) (ho : md (2 * (a / 8)) (b / 4) (2 * (1 + c / 8)) (u % 4) = (o, g))
    (H : (e = 3 ∧ f = 3) ∨ (e = 0 ∧ f = 3) ∨ (e = 0 ∧ f = 0 ∧ n ≤ k ∧ o = n ∧ g = 0)) :
    Calls Try.prog 9 #[.int .u64 a, .int .u64 mo, .int .u64 b, .int .u64 c, .int .u8 u] w fun e w' => e = .returned (.bool true) ∧ Below w.heap.size w w' := by
  have M1 := Lib.hid (muldiv_at hn (by omega) (by omega) (by omega) (by omega) (by omega) (by omega))
  have M2 := Lib.hid (muldiv_at hk (by omega) (by omega) (by omega) (by omega) (by omega) (by omega))
  have M3 := Lib.hid (muldiv_at ho (by omega) (by omega) (by omega) (by omega) (by omega) (by omega))
  clear hn hk ho
  rcases H with ⟨rfl, rfl⟩ | ⟨rfl, rfl⟩ | ⟨rfl, rfl, hle, rfl, rfl⟩
  all_goals
    go_enter Try.func9, Try.ntmps9
    go_wp2_with fail
    refine (M1.out _).mono ?_
    rintro _ w1 ⟨rfl, b1⟩
    go_wp2_with fail
    refine (M2.out _).mono ?_
    rintro _ w2 ⟨rfl, b2⟩
    go_wp2_with fail
    refine (M3.out _).mono ?_
    rintro _ w3 ⟨rfl, b3⟩
    go_wp2_with fail
    refine (awake_any _).mono ?_
    rintro _ w4 ⟨rfl, b4⟩
    go_wp2
    go_ret
    exact ⟨rfl, below_step (below_step (below_step b1 b2) b3) b4⟩

theorem lines_walk (a mo b c u : Int) (w : World) (ha : (Lit.int .u64 a).wf = true) (hmo : (Lit.int .u64 mo).wf = true) (hb : (Lit.int .u64 b).wf = true) (hc : (Lit.int .u64 c).wf = true) (hu : (Lit.int .u8 u).wf = true) :
    Calls Try.prog 9 #[.int .u64 a, .int .u64 mo, .int .u64 b, .int .u64 c, .int .u8 u] w fun e w' => e = .returned (.bool true) ∧ Below w.heap.size w w' := by
  obtain ⟨ha, ha'⟩ := u64_bounds ha; obtain ⟨hmo, hmo'⟩ := u64_bounds hmo; obtain ⟨hb, hb'⟩ := u64_bounds hb; obtain ⟨hc, hc'⟩ := u64_bounds hc; obtain ⟨hu, hu'⟩ := u8_bounds hu
  obtain ⟨x, hx⟩ : ∃ x : Nat, a / 8 = x := ⟨(a / 8).toNat, by omega⟩
  obtain ⟨d, hd⟩ : ∃ d : Nat, mo / 8 = d := ⟨(mo / 8).toNat, by omega⟩
  obtain ⟨y, hy⟩ : ∃ y : Nat, b / 4 = y := ⟨(b / 4).toNat, by omega⟩
  obtain ⟨z, hz⟩ : ∃ z : Nat, 1 + c / 8 = z := ⟨(1 + c / 8).toNat, by omega⟩
  obtain ⟨m, hm⟩ : ∃ m : Nat, u % 4 = m := ⟨(u % 4).toNat, by omega⟩
  have z0 : 0 < z := by omega
  have m3 : m ≤ 3 := by omega
  have e1 := md_nat x y z m z0 m3
  have e2 := md_nat (x + d) y z m z0 m3
  have e3 := md_nat (2 * x) y (2 * z) m (by omega) m3
  rw [Nat.mul_assoc, PDigs.rounded_twice] at e3
  have hmono : PDigs.rounded m (x * y) z ≤ PDigs.rounded m ((x + d) * y) z := PDigs.rounded_mono m (Nat.mul_le_mul_right y (Nat.le_add_right x d))
  rw [Int.natCast_add] at e2
  rw [Int.natCast_mul, Int.natCast_mul] at e3
  generalize PDigs.rounded m (x * y) z = r at *
  generalize PDigs.rounded m ((x + d) * y) z = r' at *
  by_cases h1 : 9223372036854775807 < r
  · rw [if_pos h1] at e1 e3
    rw [if_pos (by omega)] at e2
    exact lines_in a mo b c u 0 3 0 3 0 3 w ha ha' hmo hmo' hb hb' hc hc' hu hu' (by rw [hx, hy, hz, hm]; exact e1) (by rw [hx, hd, hy, hz, hm]; exact e2) (by rw [hx, hy, hz, hm]; exact e3) (.inl ⟨rfl, rfl⟩)
  · rw [if_neg h1] at e1 e3
    by_cases h2 : 9223372036854775807 < r'
    · rw [if_pos h2] at e2
      exact lines_in a mo b c u r 0 0 3 r 0 w ha ha' hmo hmo' hb hb' hc hc' hu hu' (by rw [hx, hy, hz, hm]; exact e1) (by rw [hx, hd, hy, hz, hm]; exact e2) (by rw [hx, hy, hz, hm]; exact e3) (.inr (.inl ⟨rfl, rfl⟩))
    · rw [if_neg h2] at e2
      exact lines_in a mo b c u r 0 r' 0 r 0 w ha ha' hmo hmo' hb hb' hc hc' hu hu' (by rw [hx, hy, hz, hm]; exact e1) (by rw [hx, hd, hy, hz, hm]; exact e2) (by rw [hx, hy, hz, hm]; exact e3) (.inr (.inr ⟨rfl, rfl, by omega, rfl, rfl⟩))
end Go.Proofs.Ytnnhlhdijfhepaa
