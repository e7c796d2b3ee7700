/-
  Rounded quotients: plain facts; what MulDiv answers of numbers from 0 on, of signs turned, of units.
-/
import Derived.Test.YtmmgejgmlhhfdaaWideDiv
namespace PDigs

theorem upB_zero (m q C : Nat) (h : 0 < C) : upB m q 0 C = false := by
  have h1 : decide (C < 0 * 2) = false := decide_eq_false (by omega)
  have h2 : decide (0 * 2 = C) = false := decide_eq_false (by omega)
  simp [upB, h2]
theorem rounded_down (P C : Nat) : rounded 0 P C = P / C := by
  unfold rounded
  rw [if_neg (by simp [upB])]; rfl
theorem rounded_exact (m P C : Nat) (hC : 0 < C) (h : P % C = 0) : rounded m P C = P / C := by
  unfold rounded
  rw [h, upB_zero m _ C hC, if_neg (by decide)]; rfl
theorem rounded_le (m P C : Nat) : rounded m P C ≤ P / C + 1 := by unfold rounded; split <;> omega
theorem le_rounded (m P C : Nat) : P / C ≤ rounded m P C := by unfold rounded; split <;> omega
theorem upB_mono {m q R R' C : Nat} (h : R ≤ R') (hu : upB m q R C = true) : upB m q R' C = true := by
  unfold upB at *
  simp only [Bool.or_eq_true, Bool.and_eq_true, decide_eq_true_eq, beq_iff_eq] at *
  by_cases k : C < R' * 2
  · rcases hu with (⟨h1, h2⟩ | ⟨h1, h2⟩) | ⟨h1, h2 | ⟨h2, h3⟩⟩
    · exact .inl (.inl ⟨h1, by omega⟩)
    · exact .inl (.inr ⟨h1, k⟩)
    · exact .inl (.inr ⟨by omega, k⟩)
    · exact .inl (.inr ⟨by omega, k⟩)
  · rcases hu with (⟨h1, h2⟩ | ⟨h1, h2⟩) | ⟨h1, h2⟩
    · exact .inl (.inl ⟨h1, by omega⟩)
    · omega
    · exact .inr ⟨by omega, h2⟩
theorem rounded_mono (m : Nat) {P Q C : Nat} (h : P ≤ Q) : rounded m P C ≤ rounded m Q C := by
  have hd := Nat.div_le_div_right (c := C) h
  by_cases he : P / C = Q / C
  · have hr : P % C ≤ Q % C := by
      have h1 := Nat.div_add_mod P C; have h2 := Nat.div_add_mod Q C
      rw [he] at h1; omega
    unfold rounded
    rw [he]
    by_cases hu : upB m (Q / C) (P % C) C = true
    · rw [if_pos hu, if_pos (upB_mono hr hu)]; exact Nat.le_refl _
    · rw [if_neg hu]; exact Nat.le_add_right _ _
  · exact Nat.le_trans (rounded_le m P C) (Nat.le_trans (by omega) (le_rounded m Q C))
theorem rounded_twice (m P C : Nat) : rounded m (2 * P) (2 * C) = rounded m P C := by
  have e1 : 2 * P / (2 * C) = P / C := Nat.mul_div_mul_left _ _ (by decide)
  have e2 : 2 * P % (2 * C) = 2 * (P % C) := Nat.mul_mod_mul_left _ _ _
  unfold rounded
  rw [e1, e2]
  have e3 : upB m (P / C) (2 * (P % C)) (2 * C) = upB m (P / C) (P % C) C := by
    unfold upB
    rw [show decide (0 < 2 * (P % C)) = decide (0 < P % C) from decide_eq_decide.2 (by omega), show decide (2 * C < 2 * (P % C) * 2) = decide (C < P % C * 2) from decide_eq_decide.2 (by omega), show decide (2 * (P % C) * 2 = 2 * C) = decide (P % C * 2 = C) from decide_eq_decide.2 (by omega)]
  rw [e3]
theorem rounded_up (P C : Nat) : rounded 1 P C = P / C + if 0 < P % C then 1 else 0 := by
  unfold rounded
  congr 1
  by_cases h : 0 < P % C
  · rw [if_pos h, if_pos]; simp [upB, h]
  · rw [if_neg h, if_neg]; simp [upB, h]
theorem upB_pos {m q R C : Nat} (h : upB m q R C = true) (hC : 0 < C) : 0 < R := by
  by_cases k : R = 0
  · subst k; rw [upB_zero m q C hC] at h; cases h
  · omega
theorem rounded_le_up (m P C : Nat) (hC : 0 < C) : rounded m P C ≤ rounded 1 P C := by
  rw [rounded_up]
  unfold rounded
  by_cases hu : upB m (P / C) (P % C) C = true
  · rw [if_pos hu, if_pos (upB_pos hu hC)]; exact Nat.le_refl _
  · rw [if_neg hu]; split <;> omega
end PDigs
namespace Go.Proofs.Ytmmgejgmlhhfdaa
theorem sign_nat (x : Nat) : ¬ (x : Int).sign < 0 := by
  by_cases h : x = 0
  · subst h; decide
  · rw [Int.sign_eq_one_of_pos (by omega)]; decide
theorem md_nat (x y z m : Nat) (hz : 0 < z) (hm : m ≤ 3) : md x y z m = if 9223372036854775807 < PDigs.rounded m (x * y) z then (0, 3) else (((PDigs.rounded m (x * y) z : Nat) : Int), 0) := by
  unfold md
  rw [if_neg (by omega), if_neg (by omega), if_neg (by omega), Int.toNat_natCast, Int.natAbs_natCast, Int.natAbs_natCast, Int.natAbs_natCast, if_neg (c := (x : Int).sign * (y : Int).sign * (z : Int).sign < 0)]
  rw [← Int.sign_mul, ← Int.sign_mul, ← Int.natCast_mul, ← Int.natCast_mul]
  exact sign_nat _
theorem md_nat_zero (x y m : Nat) (hm : m ≤ 3) : md x y 0 m = (0, 4) := by
  unfold md
  rw [if_neg (by omega), if_neg (by omega), if_pos rfl]
theorem md_range {a b c m n e : Int} (h : md a b c m = (n, e)) : -9223372036854775807 ≤ n ∧ n ≤ 9223372036854775807 := by
  unfold md at h
  (repeat' split at h) <;> (obtain ⟨rfl, rfl⟩ := Prod.mk.inj h) <;> omega
theorem md_one (a m : Int) (h0 : 0 ≤ m) (h1 : m ≤ 3) (ha : -9223372036854775807 ≤ a) (ha' : a ≤ 9223372036854775807) : md a 1 1 m = (a, 0) := by
  have hr : PDigs.rounded m.toNat (a.natAbs * (1 : Int).natAbs) (1 : Int).natAbs = a.natAbs := by
    rw [PDigs.rounded_exact _ _ _ (by decide) (by rw [show (1 : Int).natAbs = 1 from rfl, Nat.mod_one]), show (1 : Int).natAbs = 1 from rfl, Nat.mul_one, Nat.div_one]
  unfold md
  rw [if_neg (by omega), if_neg (by omega), if_neg (by omega), hr, if_neg (by omega), Int.sign_one, Int.mul_one, Int.mul_one]
  congr 1
  by_cases h : a < 0
  · rw [Int.sign_eq_neg_one_of_neg h, if_pos (by decide)]; omega
  · rw [if_neg]
    · omega
    · have := sign_nat a.natAbs; rwa [show ((a.natAbs : Nat) : Int) = a by omega] at this
theorem md_self (a m : Int) (h0 : 0 ≤ m) (h1 : m ≤ 3) (ha : -9223372036854775807 ≤ a) (ha' : a ≤ 9223372036854775807) (hz : a ≠ 0) : md a a a m = (a, 0) := by
  have hr : PDigs.rounded m.toNat (a.natAbs * a.natAbs) a.natAbs = a.natAbs := by
    rw [PDigs.rounded_exact _ _ _ (by omega) (Nat.mul_mod_left _ _), Nat.mul_div_cancel _ (by omega)]
  unfold md
  rw [if_neg (by omega), if_neg (by omega), if_neg hz, hr, if_neg (by omega)]
  congr 1
  rcases Int.lt_or_gt_of_ne hz with h | h
  · rw [Int.sign_eq_neg_one_of_neg h, if_pos (by decide)]; omega
  · rw [Int.sign_eq_one_of_pos h, if_neg (by decide)]; omega
theorem md_neg {a b c m n e : Int} (h : md a b c m = (n, e)) (ha : -9223372036854775807 ≤ a) (ha' : a ≤ 9223372036854775807) : md (-a) b c m = (-n, e) := by
  unfold md at h ⊢
  rw [Int.natAbs_neg, Int.sign_neg, Int.neg_mul, Int.neg_mul]
  simp only [show (-a < -9223372036854775807 ∨ b < -9223372036854775807 ∨ c < -9223372036854775807) = (a < -9223372036854775807 ∨ b < -9223372036854775807 ∨ c < -9223372036854775807) from propext (by omega)]
  by_cases k1 : m < 0 ∨ 3 < m
  · rw [if_pos k1] at h ⊢; obtain ⟨rfl, rfl⟩ := Prod.mk.inj h; rfl
  · rw [if_neg k1] at h ⊢
    by_cases k2 : a < -9223372036854775807 ∨ b < -9223372036854775807 ∨ c < -9223372036854775807
    · rw [if_pos k2] at h ⊢; obtain ⟨rfl, rfl⟩ := Prod.mk.inj h; rfl
    · rw [if_neg k2] at h ⊢
      by_cases k3 : c = 0
      · rw [if_pos k3] at h ⊢; obtain ⟨rfl, rfl⟩ := Prod.mk.inj h; rfl
      · rw [if_neg k3] at h ⊢
        by_cases k4 : 9223372036854775807 < PDigs.rounded m.toNat (a.natAbs * b.natAbs) c.natAbs
        · rw [if_pos k4] at h ⊢; obtain ⟨rfl, rfl⟩ := Prod.mk.inj h; rfl
        · rw [if_neg k4] at h ⊢
          obtain ⟨rfl, rfl⟩ := Prod.mk.inj h
          congr 1
          by_cases k5 : a.sign * b.sign * c.sign = 0
          · have h0 : a.natAbs * b.natAbs = 0 := by
              rw [← Int.sign_mul, ← Int.sign_mul, Int.sign_eq_zero_iff_zero] at k5
              rcases Int.mul_eq_zero.1 k5 with k | k
              · rw [← Int.natAbs_mul, k]; rfl
              · exact absurd k k3
            rw [h0, PDigs.rounded_exact _ _ _ (by omega) (Nat.zero_mod _), Nat.zero_div, k5]; rfl
          · generalize PDigs.rounded m.toNat (a.natAbs * b.natAbs) c.natAbs = r at *
            generalize a.sign * b.sign * c.sign = t at *
            by_cases k6 : t < 0
            · rw [if_pos k6, if_neg (by omega), Int.neg_neg]
            · rw [if_neg k6, if_pos (by omega)]
theorem md_negs {a b c m n e : Int} (h : md a b c m = (n, e)) (hb : -9223372036854775807 ≤ b) (hb' : b ≤ 9223372036854775807) (hc : -9223372036854775807 ≤ c) (hc' : c ≤ 9223372036854775807) : md a (-b) (-c) m = (n, e) := by
  unfold md at h ⊢
  rw [Int.natAbs_neg, Int.natAbs_neg, Int.sign_neg, Int.sign_neg, Int.mul_neg, Int.mul_neg, Int.neg_mul, Int.neg_neg]
  simp only [show (a < -9223372036854775807 ∨ -b < -9223372036854775807 ∨ -c < -9223372036854775807) = (a < -9223372036854775807 ∨ b < -9223372036854775807 ∨ c < -9223372036854775807) from propext (by omega), show (-c = 0) = (c = 0) from propext (by omega)]
  exact h
end Go.Proofs.Ytmmgejgmlhhfdaa
