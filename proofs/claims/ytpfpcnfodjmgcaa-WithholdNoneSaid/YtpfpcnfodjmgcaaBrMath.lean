/-
  Steps of a tax: parts and sums. Plain facts; no program is named here.
-/
import Derived.Test.YtpfpcnfodjmgcaaSplitMath
namespace PBr
open PSplit

/-- A table of n rows is right: the Aboves a, the Rates r. -/
def OkTo (a r : Nat → Int) (k : Nat) : Prop := ∀ i, i < k → (0 ≤ r i ∧ r i ≤ 10000) ∧ (0 < i → a (i - 1) < a i)
def Rt (a r : Nat → Int) (n : Nat) : Prop := (0 < n ∧ n ≤ 12 ∧ a 0 = 0) ∧ OkTo a r n
theorem OkTo.next {a r : Nat → Int} {k : Nat} (h : OkTo a r k) (h1 : (0 ≤ r k ∧ r k ≤ 10000) ∧ (0 < k → a (k - 1) < a k)) : OkTo a r (k + 1) := fun i hi => by
  by_cases e : i = k
  · subst e; exact h1
  · exact h i (by omega)
theorem Rt.up {a r : Nat → Int} {n : Nat} (h : Rt a r n) {i j : Nat} (hij : i < j) (hj : j < n) : a i < a j := by
  induction j with
  | zero => omega
  | succ j ih =>
    have h1 := (h.2 (j + 1) hj).2 (by omega)
    rw [Nat.add_sub_cancel] at h1
    by_cases e : i = j
    · subst e; exact h1
    · have := ih (by omega) (by omega); omega
theorem Rt.nonneg {a r : Nat → Int} {n : Nat} (h : Rt a r n) {i : Nat} (hi : i < n) : 0 ≤ a i := by
  by_cases e : i = 0
  · subst e; have := h.1.2.2; omega
  · have := h.up (show 0 < i by omega) hi; have := h.1.2.2; omega

/-- A row's part of an amount. -/
def pt (a : Nat → Int) (n i : Nat) (x : Int) : Int := if x ≤ a i then 0 else if i + 1 < n ∧ a (i + 1) < x then a (i + 1) - a i else x - a i
theorem pt_nonneg {a r : Nat → Int} {n i : Nat} {x : Int} (h : Rt a r n) : 0 ≤ pt a n i x := by
  unfold pt
  by_cases h1 : x ≤ a i
  · rw [if_pos h1]; exact Int.le_refl _
  · rw [if_neg h1]
    by_cases h2 : i + 1 < n ∧ a (i + 1) < x
    · rw [if_pos h2]; have := h.up (show i < i + 1 by omega) h2.1; omega
    · rw [if_neg h2]; omega
theorem pt_le {a r : Nat → Int} {n i : Nat} {x : Int} (h : Rt a r n) (hi : i < n) (hx : 0 ≤ x) : pt a n i x ≤ x := by
  have h0 := h.nonneg hi
  unfold pt
  by_cases h1 : x ≤ a i
  · rw [if_pos h1]; exact hx
  · rw [if_neg h1]
    by_cases h2 : i + 1 < n ∧ a (i + 1) < x
    · rw [if_pos h2]; omega
    · rw [if_neg h2]; omega
theorem pt_low {a r : Nat → Int} {n i : Nat} {x : Int} (h : Rt a r n) (hi : i < n) (hx : x ≤ 0) : pt a n i x = 0 := by
  have := h.nonneg hi
  unfold pt; rw [if_pos (by omega)]
theorem pt_mono {a r : Nat → Int} {n i : Nat} {x y : Int} (h : Rt a r n) (hxy : x ≤ y) : pt a n i x ≤ pt a n i y := by
  unfold pt
  by_cases hn : i + 1 < n
  · have hu := h.up (show i < i + 1 by omega) hn
    simp only [hn, true_and]
    (repeat' split) <;> omega
  · simp only [hn, false_and, if_false]
    (repeat' split) <;> omega
/-- The parts as numbers. -/
def pN (a : Nat → Int) (n : Nat) (x : Int) (i : Nat) : Nat := (pt a n i x).toNat
/-- Of the rows ahead of k the parts are what is below its Above. -/
theorem parts_to {a r : Nat → Int} {n : Nat} {x : Int} (h : Rt a r n) (hx : 0 ≤ x) : ∀ k, k < n → ((sumN (pN a n x) k : Nat) : Int) = if x ≤ a k then x else a k := by
  intro k
  induction k with
  | zero => intro hk; have := h.1.2.2; simp only [sumN]; split <;> omega
  | succ k ih =>
    intro hk
    have h1 := ih (by omega)
    have h2 := h.up (show k < k + 1 by omega) hk
    have h3 := pt_nonneg (i := k) (x := x) h
    simp only [sumN]
    rw [Int.natCast_add, h1]
    have e : ((pN a n x k : Nat) : Int) = pt a n k x := by unfold pN; omega
    rw [e]
    unfold pt
    simp only [hk, true_and]
    (repeat' split) <;> omega
/-- Parts are the amount together. -/
theorem parts_all {a r : Nat → Int} {n : Nat} {x : Int} (h : Rt a r n) (hx : 0 ≤ x) : ((sumN (pN a n x) n : Nat) : Int) = x := by
  obtain ⟨m, rfl⟩ : ∃ m, n = m + 1 := ⟨n - 1, by have := h.1.1; omega⟩
  have h1 := parts_to h hx m (by omega)
  have h3 := pt_nonneg (i := m) (x := x) h
  simp only [sumN]
  rw [Int.natCast_add, h1]
  have e : ((pN a (m + 1) x m : Nat) : Int) = pt a (m + 1) m x := by unfold pN; omega
  rw [e]
  unfold pt
  have hm : ¬ m + 1 < m + 1 := Nat.lt_irrefl _
  simp only [hm, false_and, if_false]
  (repeat' split) <;> omega

/-- A row's tax, and the tax of the rows ahead of k. -/
def tN (a r : Nat → Int) (n : Nat) (x : Int) (i : Nat) : Nat := pN a n x i * (r i).toNat / 10000
def tax (a r : Nat → Int) (n : Nat) (x : Int) : Nat := sumN (tN a r n x) n
theorem tN_le {a r : Nat → Int} {n i : Nat} {x : Int} (h : Rt a r n) (hi : i < n) : tN a r n x i ≤ pN a n x i := by
  have := (h.2 i hi).1.2
  unfold tN
  have h1 : pN a n x i * (r i).toNat ≤ pN a n x i * 10000 := Nat.mul_le_mul_left _ (by omega)
  have h2 := Nat.div_le_div_right (c := 10000) h1
  rwa [Nat.mul_div_cancel _ (by omega)] at h2
theorem sumN_at {f g : Nat → Nat} {n : Nat} (h : ∀ i, i < n → f i ≤ g i) {k : Nat} (hk : k ≤ n) : sumN f k ≤ sumN g n := by
  induction n with
  | zero => obtain rfl : k = 0 := by omega
            exact Nat.le_refl _
  | succ n ih =>
    by_cases e : k = n + 1
    · subst e; exact sumN_le h
    · have := ih (fun i hi => h i (by omega)) (by omega); simp only [sumN]; omega
/-- The tax of the rows ahead of k is not above the amount. -/
theorem tax_to {a r : Nat → Int} {n k : Nat} {x : Int} (h : Rt a r n) (hx : 0 ≤ x) (hk : k ≤ n) : ((sumN (tN a r n x) k : Nat) : Int) ≤ x := by
  have h1 := sumN_at (f := tN a r n x) (g := pN a n x) (fun i hi => tN_le h hi) hk
  have h2 := parts_all h hx
  omega
theorem tax_le {a r : Nat → Int} {n : Nat} {x : Int} (h : Rt a r n) (hx : 0 ≤ x) : ((tax a r n x : Nat) : Int) ≤ x := tax_to h hx (Nat.le_refl _)
theorem sumN_zero {f : Nat → Nat} {n : Nat} (h : ∀ i, i < n → f i = 0) : sumN f n = 0 := by
  rw [sumN_congr h, sumN_const]; omega
theorem tax_low {a r : Nat → Int} {n : Nat} {x : Int} (h : Rt a r n) (hx : x ≤ 0) : tax a r n x = 0 := by
  refine sumN_zero (fun i hi => ?_)
  unfold tN pN; rw [pt_low h hi hx]; simp
theorem div_step {p d R : Nat} (hR : R ≤ 10000) : (p + d) * R / 10000 ≤ p * R / 10000 + d := by
  have h1 : (p + d) * R ≤ p * R + d * 10000 := by rw [Nat.add_mul]; exact Nat.add_le_add_left (Nat.mul_le_mul_left _ hR) _
  have h2 := Nat.div_le_div_right (c := 10000) h1
  rwa [Nat.add_mul_div_right _ _ (by omega)] at h2
/-- The tax of more is not less, and never more than that much more. -/
theorem tax_more {a r : Nat → Int} {n : Nat} {x y : Int} (h : Rt a r n) (hx : 0 ≤ x) (hxy : x ≤ y) : tax a r n x ≤ tax a r n y ∧ ((tax a r n y : Nat) : Int) ≤ ((tax a r n x : Nat) : Int) + (y - x) := by
  have hp : ∀ i, pN a n x i ≤ pN a n y i := fun i => by have := pt_mono (i := i) h hxy; unfold pN; omega
  refine ⟨sumN_le (fun i hi => ?_), ?_⟩
  · unfold tN; exact Nat.div_le_div_right (Nat.mul_le_mul_right _ (hp i))
  · have h1 : ∀ i, i < n → tN a r n y i ≤ tN a r n x i + (pN a n y i - pN a n x i) := fun i hi => by
      have := (h.2 i hi).1.2
      have h2 := div_step (p := pN a n x i) (d := pN a n y i - pN a n x i) (R := (r i).toNat) (by omega)
      rw [Nat.add_sub_cancel' (hp i)] at h2
      exact h2
    have h2 := sumN_le h1
    rw [sumN_add] at h2
    have h3 : sumN (pN a n y) n = sumN (pN a n x) n + sumN (fun i => pN a n y i - pN a n x i) n := by
      rw [← sumN_add]; exact sumN_congr (fun i _ => by have := hp i; omega)
    have h4 := parts_all h hx
    have h5 := parts_all h (show 0 ≤ y by omega)
    unfold tax
    omega
/-- The Rate of the last row of the first k whose Above is below the amount. -/
def rateTo (a r : Nat → Int) (x : Int) : Nat → Int
  | 0 => 0
  | k + 1 => if a k < x then r k else rateTo a r x k
end PBr
