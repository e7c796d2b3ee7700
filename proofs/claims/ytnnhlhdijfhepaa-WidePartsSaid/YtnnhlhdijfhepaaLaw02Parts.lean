/-
  WideParts: of a product, divided, Down, times the divisor, and what is left over, is the product.
-/
import Derived.Test.YtnnhlhdijfhepaaLaw02Math
namespace Go.Proofs.Ytnnhlhdijfhepaa
open Go.RowKit

set_option maxHeartbeats 1600000 in
theorem parts_no (a b c e : Int) (w : World) (ha : 0 ≤ a) (ha' : a ≤ 18446744073709551615) (hb : 0 ≤ b) (hb' : b ≤ 18446744073709551615) (hc : 0 ≤ c) (hc' : c ≤ 18446744073709551615)
    (h : md (a / 2) (b / 2) (c / 2) 0 = (0, e)) (he : (c / 2 = 0 ∧ e = 4) ∨ (c / 2 ≠ 0 ∧ e = 3)) :
    Calls Try.prog 7 #[.int .u64 a, .int .u64 b, .int .u64 c] w fun e w' => e = .returned (.bool true) ∧ Below w.heap.size w w' := by
  have M := Lib.hid (muldiv_at h (by omega) (by omega) (by omega) (by omega) (by omega) (by omega))
  clear h
  rcases he with ⟨h, rfl⟩ | ⟨h, rfl⟩
  · have hz : (c / 2 == 0) = true := by rw [beq_iff_eq]; exact h
    clear h
    go_enter Try.func7, Try.ntmps7
    go_wp2_with fail
    refine (M.out _).mono ?_
    rintro _ w1 ⟨rfl, b1⟩
    go_wp2_with fail
    refine (awake_any _).mono ?_
    rintro _ w2 ⟨rfl, b2⟩
    go_wp2
    go_ret
    exact ⟨rfl, below_step b1 b2⟩
  · have hz : (c / 2 == 0) = false := by rw [beq_eq_false_iff_ne]; exact h
    clear h
    go_enter Try.func7, Try.ntmps7
    go_wp2_with fail
    refine (M.out _).mono ?_
    rintro _ w1 ⟨rfl, b1⟩
    go_wp2_with fail
    refine (awake_any _).mono ?_
    rintro _ w2 ⟨rfl, b2⟩
    go_wp2
    go_ret
    exact ⟨rfl, below_step b1 b2⟩

set_option maxHeartbeats 1600000 in
theorem parts_yes (a b c n : Int) (w : World) (ha : 0 ≤ a) (ha' : a ≤ 18446744073709551615) (hb : 0 ≤ b) (hb' : b ≤ 18446744073709551615) (hc : 0 ≤ c) (hc' : c ≤ 18446744073709551615)
    (h : md (a / 2) (b / 2) (c / 2) 0 = (n, 0)) (n0 : 0 ≤ n) (n1 : n ≤ 9223372036854775807) (hle : n * (c / 2) ≤ a / 2 * (b / 2)) (hgt : a / 2 * (b / 2) < (n + 1) * (c / 2)) :
    Calls Try.prog 7 #[.int .u64 a, .int .u64 b, .int .u64 c] w fun e w' => e = .returned (.bool true) ∧ Below w.heap.size w w' := by
  have M := Lib.hid (muldiv_at h (by omega) (by omega) (by omega) (by omega) (by omega) (by omega))
  obtain ⟨k1, h1, c1⟩ := wcmp_le hle (by omega) (by omega) (by omega) (by omega) (by omega) (by omega) (by omega) (by omega)
  have C1 := Lib.hid c1
  clear c1 hle h
  by_cases hn : n = 9223372036854775807
  · subst hn
    clear hgt
    go_enter Try.func7, Try.ntmps7
    go_wp2_with fail
    refine (M.out _).mono ?_
    rintro _ w1 ⟨rfl, b1⟩
    go_wp2_with fail
    refine (C1.out _).mono ?_
    rintro _ _ ⟨rfl, rfl⟩
    go_wp2_with fail
    refine (awake_any _).mono ?_
    rintro _ w2 ⟨rfl, b2⟩
    go_wp2
    go_ret
    exact ⟨rfl, below_step b1 b2⟩
  · have hnb : (n == 9223372036854775807) = false := by rw [beq_eq_false_iff_ne]; exact hn
    have n2 : n < 9223372036854775807 := by omega
    obtain ⟨k2, h2, c2⟩ := wcmp_gt hgt (by omega) (by omega) (by omega) (by omega) (by omega) (by omega) (by omega) (by omega)
    have C2 := Lib.hid c2
    clear c2 hgt hn
    go_enter Try.func7, Try.ntmps7
    go_wp2_with fail
    refine (M.out _).mono ?_
    rintro _ w1 ⟨rfl, b1⟩
    go_wp2_with fail
    refine (C1.out _).mono ?_
    rintro _ _ ⟨rfl, rfl⟩
    go_wp2_with fail
    refine (C2.out _).mono ?_
    rintro _ _ ⟨rfl, rfl⟩
    go_wp2_with fail
    refine (awake_any _).mono ?_
    rintro _ w2 ⟨rfl, b2⟩
    go_wp2
    go_ret
    exact ⟨rfl, below_step b1 b2⟩

theorem parts_walk (a b c : Int) (w : World) (ha : (Lit.int .u64 a).wf = true) (hb : (Lit.int .u64 b).wf = true) (hc : (Lit.int .u64 c).wf = true) :
    Calls Try.prog 7 #[.int .u64 a, .int .u64 b, .int .u64 c] w fun e w' => e = .returned (.bool true) ∧ Below w.heap.size w w' := by
  obtain ⟨ha, ha'⟩ := u64_bounds ha; obtain ⟨hb, hb'⟩ := u64_bounds hb; obtain ⟨hc, hc'⟩ := u64_bounds hc
  obtain ⟨x, hx⟩ : ∃ x : Nat, a / 2 = x := ⟨(a / 2).toNat, by omega⟩
  obtain ⟨y, hy⟩ : ∃ y : Nat, b / 2 = y := ⟨(b / 2).toNat, by omega⟩
  obtain ⟨z, hz⟩ : ∃ z : Nat, c / 2 = z := ⟨(c / 2).toNat, by omega⟩
  by_cases h0 : z = 0
  · subst h0
    exact parts_no a b c 4 w ha ha' hb hb' hc hc' (by rw [hx, hy, hz]; exact md_nat_zero x y 0 (by omega)) (.inl ⟨hz, rfl⟩)
  · have hm := md_nat x y z 0 (by omega) (by omega)
    rw [PDigs.rounded_down] at hm
    by_cases hbig : 9223372036854775807 < x * y / z
    · rw [if_pos hbig] at hm
      exact parts_no a b c 3 w ha ha' hb hb' hc hc' (by rw [hx, hy, hz]; exact hm) (.inr ⟨by omega, rfl⟩)
    · rw [if_neg hbig] at hm
      refine parts_yes a b c ((x * y / z : Nat) : Int) w ha ha' hb hb' hc hc' (by rw [hx, hy, hz]; exact hm) (Int.natCast_nonneg _) (by have := Nat.not_lt.1 hbig; exact Int.ofNat_le.2 this) ?_ ?_
      · rw [hx, hy, hz, ← Int.natCast_mul, ← Int.natCast_mul]
        exact Int.ofNat_le.2 (Nat.div_mul_le_self _ _)
      · rw [hx, hy, hz]
        have : x * y < (x * y / z + 1) * z := Nat.lt_mul_of_div_lt (Nat.lt_succ_self _) (by omega)
        have h2 := Int.ofNat_lt.2 this
        rw [Int.natCast_mul, Int.natCast_mul, Int.natCast_add] at h2
        exact h2
end Go.Proofs.Ytnnhlhdijfhepaa
