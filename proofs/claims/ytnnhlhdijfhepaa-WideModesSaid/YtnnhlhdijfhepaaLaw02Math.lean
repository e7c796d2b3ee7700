/-
  Rounded quotients: plain facts for the laws of layer 2.
-/
import Derived.Test.YtnnhlhdijfhepaaLaw02Awake
namespace PDigs

theorem upB_zero (m q C : Nat) (h : 0 < C) : upB m q 0 C = false := by
  have h1 : decide (C < 0 * 2) = false := decide_eq_false (by omega)
  have h2 : decide (0 * 2 = C) = false := decide_eq_false (by omega)
  simp [upB, h2]
theorem rounded_down (P C : Nat) : rounded 0 P C = P / C := by
  unfold rounded
  rw [if_neg (by simp [upB])]; rfl
theorem rounded_exact (m P C : Nat) (hC : 0 < C) (h : P % C = 0) : rounded m P C = P / C := by
  unfold rounded
  rw [h, upB_zero m _ C hC, if_neg (by decide)]; rfl
theorem rounded_le (m P C : Nat) : rounded m P C ≤ P / C + 1 := by unfold rounded; split <;> omega
theorem le_rounded (m P C : Nat) : P / C ≤ rounded m P C := by unfold rounded; split <;> omega
theorem upB_mono {m q R R' C : Nat} (h : R ≤ R') (hu : upB m q R C = true) : upB m q R' C = true := by
  unfold upB at *
  simp only [Bool.or_eq_true, Bool.and_eq_true, decide_eq_true_eq, beq_iff_eq] at *
  by_cases k : C < R' * 2
  · rcases hu with (⟨h1, h2⟩ | ⟨h1, h2⟩) | ⟨h1, h2 | ⟨h2, h3⟩⟩
    · exact .inl (.inl ⟨h1, by omega⟩)
    · exact .inl (.inr ⟨h1, k⟩)
    · exact .inl (.inr ⟨by omega, k⟩)
    · exact .inl (.inr ⟨by omega, k⟩)
  · rcases hu with (⟨h1, h2⟩ | ⟨h1, h2⟩) | ⟨h1, h2⟩
    · exact .inl (.inl ⟨h1, by omega⟩)
    · omega
    · exact .inr ⟨by omega, h2⟩
theorem rounded_mono (m : Nat) {P Q C : Nat} (h : P ≤ Q) : rounded m P C ≤ rounded m Q C := by
  have hd := Nat.div_le_div_right (c := C) h
  by_cases he : P / C = Q / C
  · have hr : P % C ≤ Q % C := by
      have h1 := Nat.div_add_mod P C; have h2 := Nat.div_add_mod Q C
      rw [he] at h1; omega
    unfold rounded
    rw [he]
    by_cases hu : upB m (Q / C) (P % C) C = true
    · rw [if_pos hu, if_pos (upB_mono hr hu)]; exact Nat.le_refl _
    · rw [if_neg hu]; exact Nat.le_add_right _ _
  · exact Nat.le_trans (rounded_le m P C) (Nat.le_trans (by omega) (le_rounded m Q C))
theorem rounded_twice (m P C : Nat) : rounded m (2 * P) (2 * C) = rounded m P C := by
  have e1 : 2 * P / (2 * C) = P / C := Nat.mul_div_mul_left _ _ (by decide)
  have e2 : 2 * P % (2 * C) = 2 * (P % C) := Nat.mul_mod_mul_left _ _ _
  unfold rounded
  rw [e1, e2]
  have e3 : upB m (P / C) (2 * (P % C)) (2 * C) = upB m (P / C) (P % C) C := by
    unfold upB
    rw [show decide (0 < 2 * (P % C)) = decide (0 < P % C) from decide_eq_decide.2 (by omega), show decide (2 * C < 2 * (P % C) * 2) = decide (C < P % C * 2) from decide_eq_decide.2 (by omega), show decide (2 * (P % C) * 2 = 2 * C) = decide (P % C * 2 = C) from decide_eq_decide.2 (by omega)]
  rw [e3]
end PDigs
namespace Go.Proofs.Ytnnhlhdijfhepaa
theorem sign_nat (x : Nat) : ¬ (x : Int).sign < 0 := by
  by_cases h : x = 0
  · subst h; decide
  · rw [Int.sign_eq_one_of_pos (by omega)]; decide
theorem md_nat (x y z m : Nat) (hz : 0 < z) (hm : m ≤ 3) : md x y z m = if 9223372036854775807 < PDigs.rounded m (x * y) z then (0, 3) else (((PDigs.rounded m (x * y) z : Nat) : Int), 0) := by
  unfold md
  rw [if_neg (by omega), if_neg (by omega), if_neg (by omega), Int.toNat_natCast, Int.natAbs_natCast, Int.natAbs_natCast, Int.natAbs_natCast, if_neg (c := (x : Int).sign * (y : Int).sign * (z : Int).sign < 0)]
  rw [← Int.sign_mul, ← Int.sign_mul, ← Int.natCast_mul, ← Int.natCast_mul]
  exact sign_nat _
theorem md_nat_zero (x y m : Nat) (hm : m ≤ 3) : md x y 0 m = (0, 4) := by
  unfold md
  rw [if_neg (by omega), if_neg (by omega), if_pos rfl]
theorem cmp_le {x y : Int} (h : x ≤ y) : Lib.compareInt x y ≤ 0 := by unfold Lib.compareInt; (repeat' split) <;> omega
theorem cmp_gt {x y : Int} (h : y < x) : 0 < Lib.compareInt x y := by unfold Lib.compareInt; (repeat' split) <;> omega
theorem wcmp_le {a b c d : Int} (h : a * b ≤ c * d) (ha : -9223372036854775808 ≤ a) (ha' : a ≤ 9223372036854775807) (hb : -9223372036854775808 ≤ b) (hb' : b ≤ 9223372036854775807) (hc : -9223372036854775808 ≤ c) (hc' : c ≤ 9223372036854775807) (hd : -9223372036854775808 ≤ d) (hd' : d ≤ 9223372036854775807) :
    ∃ k : Int, k ≤ 0 ∧ ∀ w, Calls Try.prog 17 #[.int .i64 a, .int .i64 b, .int .i64 c, .int .i64 d] w fun e w' => e = .returned (.int .i64 k) ∧ w = w' :=
  ⟨_, cmp_le h, fun w => wcmp_any a b c d w ha ha' hb hb' hc hc' hd hd'⟩
theorem wcmp_gt {a b c d : Int} (h : c * d < a * b) (ha : -9223372036854775808 ≤ a) (ha' : a ≤ 9223372036854775807) (hb : -9223372036854775808 ≤ b) (hb' : b ≤ 9223372036854775807) (hc : -9223372036854775808 ≤ c) (hc' : c ≤ 9223372036854775807) (hd : -9223372036854775808 ≤ d) (hd' : d ≤ 9223372036854775807) :
    ∃ k : Int, 0 < k ∧ ∀ w, Calls Try.prog 17 #[.int .i64 a, .int .i64 b, .int .i64 c, .int .i64 d] w fun e w' => e = .returned (.int .i64 k) ∧ w = w' :=
  ⟨_, cmp_gt h, fun w => wcmp_any a b c d w ha ha' hb hb' hc hc' hd hd'⟩
end Go.Proofs.Ytnnhlhdijfhepaa
