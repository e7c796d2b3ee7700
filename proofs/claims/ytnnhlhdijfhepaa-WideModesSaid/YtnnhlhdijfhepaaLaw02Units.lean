/-
  WideUnits: times 1, by 1, a number is as it was, by any mode, and times itself, by itself; signs do not turn the size.
-/
import Derived.Test.YtnnhlhdijfhepaaLaw02Math
namespace Go.Proofs.Ytnnhlhdijfhepaa
open Go.RowKit

theorem md_range {a b c m n e : Int} (h : md a b c m = (n, e)) : -9223372036854775807 ≤ n ∧ n ≤ 9223372036854775807 := by
  unfold md at h
  (repeat' split at h) <;> (obtain ⟨rfl, rfl⟩ := Prod.mk.inj h) <;> omega
theorem md_one (a m : Int) (h0 : 0 ≤ m) (h1 : m ≤ 3) (ha : -9223372036854775807 ≤ a) (ha' : a ≤ 9223372036854775807) : md a 1 1 m = (a, 0) := by
  have hr : PDigs.rounded m.toNat (a.natAbs * (1 : Int).natAbs) (1 : Int).natAbs = a.natAbs := by
    rw [PDigs.rounded_exact _ _ _ (by decide) (by rw [show (1 : Int).natAbs = 1 from rfl, Nat.mod_one]), show (1 : Int).natAbs = 1 from rfl, Nat.mul_one, Nat.div_one]
  unfold md
  rw [if_neg (by omega), if_neg (by omega), if_neg (by omega), hr, if_neg (by omega), Int.sign_one, Int.mul_one, Int.mul_one]
  congr 1
  by_cases h : a < 0
  · rw [Int.sign_eq_neg_one_of_neg h, if_pos (by decide)]; omega
  · rw [if_neg]
    · omega
    · have := sign_nat a.natAbs; rwa [show ((a.natAbs : Nat) : Int) = a by omega] at this
theorem md_self (a m : Int) (h0 : 0 ≤ m) (h1 : m ≤ 3) (ha : -9223372036854775807 ≤ a) (ha' : a ≤ 9223372036854775807) (hz : a ≠ 0) : md a a a m = (a, 0) := by
  have hr : PDigs.rounded m.toNat (a.natAbs * a.natAbs) a.natAbs = a.natAbs := by
    rw [PDigs.rounded_exact _ _ _ (by omega) (Nat.mul_mod_left _ _), Nat.mul_div_cancel _ (by omega)]
  unfold md
  rw [if_neg (by omega), if_neg (by omega), if_neg hz, hr, if_neg (by omega)]
  congr 1
  rcases Int.lt_or_gt_of_ne hz with h | h
  · rw [Int.sign_eq_neg_one_of_neg h, if_pos (by decide)]; omega
  · rw [Int.sign_eq_one_of_pos h, if_neg (by decide)]; omega
theorem md_neg {a b c m n e : Int} (h : md a b c m = (n, e)) (ha : -9223372036854775807 ≤ a) (ha' : a ≤ 9223372036854775807) : md (-a) b c m = (-n, e) := by
  unfold md at h ⊢
  rw [Int.natAbs_neg, Int.sign_neg, Int.neg_mul, Int.neg_mul]
  simp only [show (-a < -9223372036854775807 ∨ b < -9223372036854775807 ∨ c < -9223372036854775807) = (a < -9223372036854775807 ∨ b < -9223372036854775807 ∨ c < -9223372036854775807) from propext (by omega)]
  by_cases k1 : m < 0 ∨ 3 < m
  · rw [if_pos k1] at h ⊢; obtain ⟨rfl, rfl⟩ := Prod.mk.inj h; rfl
  · rw [if_neg k1] at h ⊢
    by_cases k2 : a < -9223372036854775807 ∨ b < -9223372036854775807 ∨ c < -9223372036854775807
    · rw [if_pos k2] at h ⊢; obtain ⟨rfl, rfl⟩ := Prod.mk.inj h; rfl
    · rw [if_neg k2] at h ⊢
      by_cases k3 : c = 0
      · rw [if_pos k3] at h ⊢; obtain ⟨rfl, rfl⟩ := Prod.mk.inj h; rfl
      · rw [if_neg k3] at h ⊢
        by_cases k4 : 9223372036854775807 < PDigs.rounded m.toNat (a.natAbs * b.natAbs) c.natAbs
        · rw [if_pos k4] at h ⊢; obtain ⟨rfl, rfl⟩ := Prod.mk.inj h; rfl
        · rw [if_neg k4] at h ⊢
          obtain ⟨rfl, rfl⟩ := Prod.mk.inj h
          congr 1
          by_cases k5 : a.sign * b.sign * c.sign = 0
          · have h0 : a.natAbs * b.natAbs = 0 := by
              rw [← Int.sign_mul, ← Int.sign_mul, Int.sign_eq_zero_iff_zero] at k5
              rcases Int.mul_eq_zero.1 k5 with k | k
              · rw [← Int.natAbs_mul, k]; rfl
              · exact absurd k k3
            rw [h0, PDigs.rounded_exact _ _ _ (by omega) (Nat.zero_mod _), Nat.zero_div, k5]; rfl
          · generalize PDigs.rounded m.toNat (a.natAbs * b.natAbs) c.natAbs = r at *
            generalize a.sign * b.sign * c.sign = t at *
            by_cases k6 : t < 0
            · rw [if_pos k6, if_neg (by omega), Int.neg_neg]
            · rw [if_neg k6, if_pos (by omega)]
theorem md_negs {a b c m n e : Int} (h : md a b c m = (n, e)) (hb : -9223372036854775807 ≤ b) (hb' : b ≤ 9223372036854775807) (hc : -9223372036854775807 ≤ c) (hc' : c ≤ 9223372036854775807) : md a (-b) (-c) m = (n, e) := by
  unfold md at h ⊢
  rw [Int.natAbs_neg, Int.natAbs_neg, Int.sign_neg, Int.sign_neg, Int.mul_neg, Int.mul_neg, Int.neg_mul, Int.neg_neg]
  simp only [show (a < -9223372036854775807 ∨ -b < -9223372036854775807 ∨ -c < -9223372036854775807) = (a < -9223372036854775807 ∨ b < -9223372036854775807 ∨ c < -9223372036854775807) from propext (by omega), show (-c = 0) = (c = 0) from propext (by omega)]
  exact h

set_option maxHeartbeats 1600000 in
theorem units_in (a b c u : Int) (w : World) (ha : -9223372036854775807 ≤ a) (ha' : a ≤ 9223372036854775807) (hb : -9223372036854775807 ≤ b) (hb' : b ≤ 9223372036854775807) (hc : -9223372036854775807 ≤ c) (hc' : c ≤ 9223372036854775807) (hu : 0 ≤ u) (hu' : u ≤ 255) :
    Calls Try.prog 6 #[.int .i64 a, .int .i64 b, .int .i64 c, .int .u8 u] w fun e w' => e = .returned (.bool true) ∧ Below w.heap.size w w' := by
  have x1 : (a == -9223372036854775808) = false := by rw [beq_eq_false_iff_ne]; omega
  have x2 : (b == -9223372036854775808) = false := by rw [beq_eq_false_iff_ne]; omega
  have x3 : (c == -9223372036854775808) = false := by rw [beq_eq_false_iff_ne]; omega
  obtain ⟨n, g, hn⟩ : ∃ n g, md a b c (u % 4) = (n, g) := ⟨_, _, rfl⟩
  have hr := md_range hn
  obtain ⟨n0, n1⟩ := hr
  obtain ⟨y, f, hy⟩ : ∃ y f, md a a a (u % 4) = (y, f) := ⟨_, _, rfl⟩
  have M1 := Lib.hid (muldiv_at (md_one a (u % 4) (by omega) (by omega) ha ha') (by omega) (by omega) (by omega) (by omega) (by omega) (by omega))
  have M2 := Lib.hid (muldiv_at hy (by omega) (by omega) (by omega) (by omega) (by omega) (by omega))
  have M3 := Lib.hid (muldiv_at hn (by omega) (by omega) (by omega) (by omega) (by omega) (by omega))
  have M4 := Lib.hid (muldiv_at (md_neg hn ha ha') (by omega) (by omega) (by omega) (by omega) (by omega) (by omega))
  have M5 := Lib.hid (muldiv_at (md_negs hn hb hb' hc hc') (by omega) (by omega) (by omega) (by omega) (by omega) (by omega))
  have HY : Hid ((a = 0 ∧ f = 4) ∨ (a ≠ 0 ∧ y = a ∧ f = 0)) := Lib.hid (by
    by_cases h0 : a = 0
    · subst h0
      unfold md at hy
      rw [if_neg (by omega), if_neg (by omega), if_pos rfl] at hy
      obtain ⟨rfl, rfl⟩ := Prod.mk.inj hy
      exact .inl ⟨rfl, rfl⟩
    · rw [md_self a _ (by omega) (by omega) ha ha' h0] at hy
      obtain ⟨rfl, rfl⟩ := Prod.mk.inj hy
      exact .inr ⟨h0, rfl, rfl⟩)
  clear hn hy
  rcases HY.out with ⟨rfl, rfl⟩ | ⟨h0, rfl, rfl⟩
  · clear HY
    go_enter Try.func6, Try.ntmps6
    go_wp2_with fail
    refine (M1.out _).mono ?_
    rintro _ w1 ⟨rfl, b1⟩
    go_wp2_with fail
    refine (M2.out _).mono ?_
    rintro _ w2 ⟨rfl, b2⟩
    go_wp2_with fail
    refine (M3.out _).mono ?_
    rintro _ w3 ⟨rfl, b3⟩
    go_wp2_with fail
    refine (M4.out _).mono ?_
    rintro _ w4 ⟨rfl, b4⟩
    go_wp2_with fail
    refine (M5.out _).mono ?_
    rintro _ w5 ⟨rfl, b5⟩
    go_wp2_with fail
    refine (awake_any _).mono ?_
    rintro _ w6 ⟨rfl, b6⟩
    go_wp2
    go_ret
    exact ⟨rfl, below_step (below_step (below_step (below_step (below_step b1 b2) b3) b4) b5) b6⟩
  · have hb0 : (y == 0) = false := by rw [beq_eq_false_iff_ne]; exact h0
    have hb1 : (y != 0) = true := by rw [bne_iff_ne]; exact h0
    clear HY
    go_enter Try.func6, Try.ntmps6
    go_wp2_with fail
    refine (M1.out _).mono ?_
    rintro _ w1 ⟨rfl, b1⟩
    go_wp2_with fail
    refine (M2.out _).mono ?_
    rintro _ w2 ⟨rfl, b2⟩
    go_wp2_with fail
    refine (M3.out _).mono ?_
    rintro _ w3 ⟨rfl, b3⟩
    go_wp2_with fail
    refine (M4.out _).mono ?_
    rintro _ w4 ⟨rfl, b4⟩
    go_wp2_with fail
    refine (M5.out _).mono ?_
    rintro _ w5 ⟨rfl, b5⟩
    go_wp2_with fail
    refine (awake_any _).mono ?_
    rintro _ w6 ⟨rfl, b6⟩
    go_wp2
    go_ret
    exact ⟨rfl, below_step (below_step (below_step (below_step (below_step b1 b2) b3) b4) b5) b6⟩

set_option maxHeartbeats 1600000 in
theorem units_out (a b c u : Int) (w : World) (hu : 0 ≤ u) (hu' : u ≤ 255) (h : a = -9223372036854775808 ∨ b = -9223372036854775808 ∨ c = -9223372036854775808) :
    Calls Try.prog 6 #[.int .i64 a, .int .i64 b, .int .i64 c, .int .u8 u] w fun e w' => e = .returned (.bool true) ∧ Below w.heap.size w w' := by
  have H := Lib.hid h; clear h
  go_enter Try.func6, Try.ntmps6
  go_wp2_with fail
  all_goals first
    | (refine (awake_any _).mono ?_
       rintro _ w1 ⟨rfl, b1⟩
       go_wp2
       go_ret
       exact ⟨rfl, b1⟩)
    | (exfalso
       have := H.out
       simp_all)

theorem units_walk (a b c u : Int) (w : World) (ha : (Lit.int .i64 a).wf = true) (hb : (Lit.int .i64 b).wf = true) (hc : (Lit.int .i64 c).wf = true) (hu : (Lit.int .u8 u).wf = true) :
    Calls Try.prog 6 #[.int .i64 a, .int .i64 b, .int .i64 c, .int .u8 u] w fun e w' => e = .returned (.bool true) ∧ Below w.heap.size w w' := by
  have ha := i64_bounds ha; have hb := i64_bounds hb; have hc := i64_bounds hc; have hu := u8_bounds hu
  by_cases h : a = -9223372036854775808 ∨ b = -9223372036854775808 ∨ c = -9223372036854775808
  · exact units_out a b c u w hu.1 hu.2 h
  · exact units_in a b c u w (by omega) (by omega) (by omega) (by omega) (by omega) (by omega) (by omega) (by omega)
end Go.Proofs.Ytnnhlhdijfhepaa
