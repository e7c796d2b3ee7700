/-
  Steps of a tax: tables of one row and of two, of noughts and of all, and with one row more. Plain facts.
-/
import Derived.Test.YtpfpcnfodjmgcaaBrMath
namespace PBr
open PSplit

theorem floors (p q R : Nat) : p * R / 10000 + q * R / 10000 ≤ (p + q) * R / 10000 ∧ (p + q) * R / 10000 ≤ p * R / 10000 + q * R / 10000 + 1 := by
  rw [Nat.add_mul]
  generalize p * R = u
  generalize q * R = v
  omega
/-- One row. -/
theorem rt_one {R : Int} (h0 : 0 ≤ R) (h1 : R ≤ 10000) : Rt (fun _ => 0) (fun _ => R) 1 := ⟨⟨by omega, by omega, rfl⟩, fun i hi => ⟨⟨h0, h1⟩, fun h => by omega⟩⟩
theorem tax_one (R : Int) {x : Int} (hx : 0 ≤ x) : tax (fun _ => 0) (fun _ => R) 1 x = x.toNat * R.toNat / 10000 := by
  unfold tax tN pN pt
  simp only [sumN]
  by_cases h : x ≤ 0
  · obtain rfl : x = 0 := by omega
    simp
  · rw [if_neg h, if_neg (by omega), Nat.zero_add, Int.sub_zero]
/-- Two rows, of the same Rate. -/
def two (k : Int) (i : Nat) : Int := if i = 0 then 0 else k
theorem rt_two {R k : Int} (h0 : 0 ≤ R) (h1 : R ≤ 10000) (hk : 0 < k) : Rt (two k) (fun _ => R) 2 := ⟨⟨by omega, by omega, rfl⟩, fun i hi => ⟨⟨h0, h1⟩, fun h => by
  obtain rfl : i = 1 := by omega
  exact hk⟩⟩
theorem tax_two {R k x : Int} (h0 : 0 ≤ R) (h1 : R ≤ 10000) (hk : 0 < k) (hx : 0 ≤ x) : tax (two k) (fun _ => R) 2 x ≤ tax (fun _ => 0) (fun _ => R) 1 x ∧ tax (fun _ => 0) (fun _ => R) 1 x ≤ tax (two k) (fun _ => R) 2 x + 1 := by
  have hp := parts_all (rt_two h0 h1 hk) hx
  rw [tax_one R hx]
  have e : tax (two k) (fun _ => R) 2 x = pN (two k) 2 x 0 * R.toNat / 10000 + pN (two k) 2 x 1 * R.toNat / 10000 := by
    unfold tax tN; simp only [sumN, Nat.zero_add]
  simp only [sumN, Nat.zero_add] at hp
  rw [e, show x.toNat = pN (two k) 2 x 0 + pN (two k) 2 x 1 by omega]
  exact floors _ _ _
/-- Noughts, and all. -/
theorem Rt.rates {a r : Nat → Int} {n : Nat} (h : Rt a r n) {R : Int} (h0 : 0 ≤ R) (h1 : R ≤ 10000) : Rt a (fun _ => R) n := ⟨h.1, fun i hi => ⟨⟨h0, h1⟩, (h.2 i hi).2⟩⟩
theorem tax_none (a : Nat → Int) (n : Nat) (x : Int) : tax a (fun _ => 0) n x = 0 := sumN_zero (fun i _ => by unfold tN; simp)
theorem tax_all {a r : Nat → Int} {n : Nat} {x : Int} (h : Rt a r n) (hx : 0 ≤ x) : ((tax a (fun _ => 10000) n x : Nat) : Int) = x := by
  have hp := parts_all h hx
  have : tax a (fun _ => 10000) n x = sumN (pN a n x) n := sumN_congr (fun i _ => by
    unfold tN
    rw [show (10000 : Int).toNat = 10000 from rfl, Nat.mul_div_cancel _ (by omega)])
  omega
theorem rate_all {a r : Nat → Int} {n : Nat} (h : Rt a r n) {x : Int} (hx : 0 ≤ x) {k : Nat} (hk : 0 < k) (hkn : k ≤ n) : rateTo a (fun _ => 10000) x k = if 0 < x then 10000 else 0 := by
  induction k with
  | zero => omega
  | succ k ih =>
    simp only [rateTo]
    by_cases e : k = 0
    · subst e
      rw [h.1.2.2]
      simp only [rateTo]
    · rw [ih (by omega) (by omega)]
      have := h.nonneg (show k < n by omega)
      (repeat' split) <;> first | rfl | omega
/-- One row more. -/
def ext (a : Nat → Int) (n : Nat) (A : Int) (i : Nat) : Int := if i = n then A else a i
theorem ext_at (a : Nat → Int) (n : Nat) (A : Int) : ext a n A n = A := if_pos rfl
theorem ext_lt {a : Nat → Int} {n i : Nat} {A : Int} (h : i < n) : ext a n A i = a i := if_neg (by omega)
theorem rt_ext {a r : Nat → Int} {n : Nat} {A R : Int} (h : Rt a r n) (hn : n ≤ 11) (hA : a (n - 1) < A) (h0 : 0 ≤ R) (h1 : R ≤ 10000) : Rt (ext a n A) (ext r n R) (n + 1) := by
  have hn0 := h.1.1
  refine ⟨⟨by omega, by omega, by rw [ext_lt hn0]; exact h.1.2.2⟩, fun i hi => ?_⟩
  by_cases e : i = n
  · subst e
    rw [ext_at, ext_at, ext_lt (show i - 1 < i by omega)]
    exact ⟨⟨h0, h1⟩, fun _ => hA⟩
  · have hi' : i < n := by omega
    rw [ext_lt hi', ext_lt hi', ext_lt (show i - 1 < n by omega)]
    exact h.2 i hi'
/-- Above the amount: nothing turns. -/
theorem pt_ext {a r : Nat → Int} {n i : Nat} {A x : Int} (h : Rt a r n) (hx : x < A) (hi : i < n) : pt (ext a n A) (n + 1) i x = pt a n i x := by
  unfold pt
  rw [ext_lt hi]
  by_cases h1 : x ≤ a i
  · rw [if_pos h1, if_pos h1]
  · rw [if_neg h1, if_neg h1]
    by_cases h2 : i + 1 < n
    · rw [ext_lt h2]
      by_cases h3 : a (i + 1) < x
      · rw [if_pos ⟨by omega, h3⟩, if_pos ⟨h2, h3⟩]
      · rw [if_neg (fun k => h3 k.2), if_neg (fun k => h3 k.2)]
    · obtain rfl : n = i + 1 := by omega
      rw [ext_at, if_neg (fun k => by have := k.2; omega), if_neg (fun k => h2 k.1)]
theorem pt_ext_last {a : Nat → Int} {n : Nat} {A x : Int} (hx : x < A) : pt (ext a n A) (n + 1) n x = 0 := by
  unfold pt; rw [ext_at, if_pos (by omega)]
theorem tax_ext {a r : Nat → Int} {n : Nat} {A R x : Int} (h : Rt a r n) (hx : x < A) : tax (ext a n A) (ext r n R) (n + 1) x = tax a r n x := by
  unfold tax
  simp only [sumN]
  rw [sumN_congr (g := tN a r n x) (fun i hi => by unfold tN pN; rw [pt_ext h hx hi, ext_lt hi])]
  unfold tN pN
  rw [pt_ext_last hx]; simp
/-- A part is not above its row's width. -/
theorem pt_width {a r : Nat → Int} {n i : Nat} {x : Int} (h : Rt a r n) (hi : i + 1 < n) : pt a n i x ≤ a (i + 1) - a i := by
  have := h.up (show i < i + 1 by omega) hi
  unfold pt
  simp only [hi, true_and]
  (repeat' split) <;> omega
/-- The last row parted in two: its two parts are its part. -/
theorem pt_split {a r : Nat → Int} {n : Nat} {A x : Int} (h : Rt a r n) (hA : a (n - 1) < A) : pt (ext a n A) (n + 1) (n - 1) x + pt (ext a n A) (n + 1) n x = pt a n (n - 1) x := by
  have hn := h.1.1
  obtain ⟨m, rfl⟩ : ∃ m, n = m + 1 := ⟨n - 1, by omega⟩
  rw [Nat.add_sub_cancel] at hA ⊢
  unfold pt
  rw [ext_at, ext_lt (Nat.lt_succ_self m)]
  have h1 : m + 1 < m + 1 + 1 := by omega
  have h2 : ¬ m + 1 < m + 1 := by omega
  have h3 : ¬ m + 1 + 1 < m + 1 + 1 := by omega
  simp only [h1, h2, h3, true_and, false_and, if_false]
  (repeat' split) <;> omega
theorem pt_ahead {a : Nat → Int} {n i : Nat} {A x : Int} (hi : i + 1 < n) : pt (ext a n A) (n + 1) i x = pt a n i x := by
  unfold pt
  rw [ext_lt (show i < n by omega), ext_lt hi]
  have h1 : i + 1 < n + 1 := by omega
  simp only [h1, hi, true_and]
theorem tax_split {a r : Nat → Int} {n : Nat} {A x : Int} (h : Rt a r n) (hA : a (n - 1) < A) : tax (ext a n A) (ext r n (r (n - 1))) (n + 1) x ≤ tax a r n x ∧ tax a r n x ≤ tax (ext a n A) (ext r n (r (n - 1))) (n + 1) x + 1 := by
  have hn := h.1.1
  have hs := pt_split (x := x) h hA
  obtain ⟨m, rfl⟩ : ∃ m, n = m + 1 := ⟨n - 1, by omega⟩
  rw [Nat.add_sub_cancel] at hA hs ⊢
  have e : sumN (tN (ext a (m + 1) A) (ext r (m + 1) (r m)) (m + 1 + 1) x) m = sumN (tN a r (m + 1) x) m := sumN_congr (fun i hi => by
    unfold tN pN; rw [pt_ahead (show i + 1 < m + 1 by omega), ext_lt (show i < m + 1 by omega)])
  unfold tax
  simp only [sumN]
  rw [e]
  have e1 : tN (ext a (m + 1) A) (ext r (m + 1) (r m)) (m + 1 + 1) x m = pN (ext a (m + 1) A) (m + 1 + 1) x m * (r m).toNat / 10000 := by unfold tN; rw [ext_lt (Nat.lt_succ_self m)]
  have e2 : tN (ext a (m + 1) A) (ext r (m + 1) (r m)) (m + 1 + 1) x (m + 1) = pN (ext a (m + 1) A) (m + 1 + 1) x (m + 1) * (r m).toNat / 10000 := by unfold tN; rw [ext_at]
  have e3 : tN a r (m + 1) x m = (pN (ext a (m + 1) A) (m + 1 + 1) x m + pN (ext a (m + 1) A) (m + 1 + 1) x (m + 1)) * (r m).toNat / 10000 := by
    unfold tN
    congr 2
    have q1 : 0 ≤ pt (ext a (m + 1) A) (m + 1 + 1) (m + 1) x := by
      unfold pt; rw [ext_at]; (repeat' split) <;> omega
    have q2 : 0 ≤ pt (ext a (m + 1) A) (m + 1 + 1) m x := by
      unfold pt
      rw [ext_lt (Nat.lt_succ_self m), ext_at]
      (repeat' split) <;> omega
    unfold pN
    omega
  rw [e1, e2, e3]
  have := floors (pN (ext a (m + 1) A) (m + 1 + 1) x m) (pN (ext a (m + 1) A) (m + 1 + 1) x (m + 1)) (r m).toNat
  omega
end PBr
