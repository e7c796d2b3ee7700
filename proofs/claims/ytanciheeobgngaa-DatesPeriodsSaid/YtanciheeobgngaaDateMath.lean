/-
  Dates: the lengths of months, the numbers of dates, the day behind. Plain facts; no program is named here.
-/
import Derived.Test.YtanciheeobgngaaBase
namespace PDate

/-- One day more in a leap year. -/
def lp (y : Int) : Int := if y % 400 = 0 ∨ (y % 4 = 0 ∧ y % 100 ≠ 0) then 1 else 0
theorem lp_cases (y : Int) : lp y = 0 ∨ lp y = 1 := by unfold lp; split <;> omega
/-- How many days a month has. -/
def len (y m : Int) : Int := if y < 1900 ∨ 2999 < y ∨ m < 1 ∨ 12 < m then 0 else if m = 2 then 28 + lp y else if m = 4 ∨ m = 6 ∨ m = 9 ∨ m = 11 then 30 else 31
theorem len_in {y m : Int} (h0 : 1900 ≤ y) (h1 : y ≤ 2999) (h2 : 1 ≤ m) (h3 : m ≤ 12) : len y m = if m = 2 then 28 + lp y else if m = 4 ∨ m = 6 ∨ m = 9 ∨ m = 11 then 30 else 31 := by
  unfold len; rw [if_neg (by omega)]
theorem len_out {y m : Int} (h : y < 1900 ∨ 2999 < y ∨ m < 1 ∨ 12 < m) : len y m = 0 := by unfold len; rw [if_pos h]
theorem len_bounds (y m : Int) : 0 ≤ len y m ∧ len y m ≤ 31 := by
  have := lp_cases y
  unfold len; (repeat' split) <;> omega
/-- It is a date. -/
def ok (y m d : Int) : Prop := 0 < d ∧ d ≤ len y m
instance (y m d : Int) : Decidable (ok y m d) := by unfold ok; infer_instance
theorem ok_in {y m d : Int} (h : ok y m d) : (1900 ≤ y ∧ y ≤ 2999) ∧ (1 ≤ m ∧ m ≤ 12) ∧ 1 ≤ d ∧ d ≤ 31 := by
  obtain ⟨h1, h2⟩ := h
  have h3 := len_bounds y m
  by_cases k : y < 1900 ∨ 2999 < y ∨ m < 1 ∨ 12 < m
  · rw [len_out k] at h2; omega
  · omega
/-- How many days are ahead of a year. -/
def ya (y : Int) : Int := 365 * (y - 1900) + (y - 1) / 4 - (y - 1) / 100 + (y - 1) / 400 - 460
theorem ya_first : ya 1900 = 0 := rfl
theorem ya_next (y : Int) : ya (y + 1) = ya y + 365 + lp y := by
  unfold ya lp
  rw [show y + 1 - 1 = y by omega]
  split <;> omega
theorem ya_mono {y z : Int} (h : y ≤ z) : ya y ≤ ya z := by
  unfold ya; omega
theorem ya_up {y z : Int} (h : y < z) : ya (y + 1) ≤ ya z := ya_mono (by omega)
theorem ya_last : ya 3000 = 401767 := rfl
/-- How many days of the year are ahead of a month (13: all). -/
def ma (y m : Int) : Int :=
  (if m ≤ 1 then 0 else if m = 2 then 31 else if m = 3 then 59 else if m = 4 then 90 else if m = 5 then 120 else if m = 6 then 151 else if m = 7 then 181 else if m = 8 then 212 else if m = 9 then 243 else if m = 10 then 273 else if m = 11 then 304 else if m = 12 then 334 else 365) + if 2 < m then lp y else 0
theorem ma_first (y : Int) : ma y 1 = 0 := rfl
theorem ma_next {y m : Int} (h0 : 1900 ≤ y) (h1 : y ≤ 2999) (h2 : 1 ≤ m) (h3 : m ≤ 12) : ma y (m + 1) = ma y m + len y m := by
  rw [len_in h0 h1 h2 h3]
  unfold ma
  have : m = 1 ∨ m = 2 ∨ m = 3 ∨ m = 4 ∨ m = 5 ∨ m = 6 ∨ m = 7 ∨ m = 8 ∨ m = 9 ∨ m = 10 ∨ m = 11 ∨ m = 12 := by omega
  rcases this with rfl | rfl | rfl | rfl | rfl | rfl | rfl | rfl | rfl | rfl | rfl | rfl <;> simp <;> omega
theorem ma_all (y : Int) : ma y 13 = 365 + lp y := rfl
theorem ma_step {y m : Int} (h2 : 1 ≤ m) (h3 : m ≤ 12) : ma y m ≤ ma y (m + 1) := by
  have := lp_cases y
  unfold ma
  have : m = 1 ∨ m = 2 ∨ m = 3 ∨ m = 4 ∨ m = 5 ∨ m = 6 ∨ m = 7 ∨ m = 8 ∨ m = 9 ∨ m = 10 ∨ m = 11 ∨ m = 12 := by omega
  rcases this with rfl | rfl | rfl | rfl | rfl | rfl | rfl | rfl | rfl | rfl | rfl | rfl <;> simp <;> omega
theorem ma_mono {y m k : Int} (h2 : 1 ≤ m) (h3 : m ≤ k) (h4 : k ≤ 13) : ma y m ≤ ma y k := by
  obtain ⟨n, rfl⟩ : ∃ n : Nat, k = m + n := ⟨(k - m).toNat, by omega⟩
  clear h3
  induction n with
  | zero => simp
  | succ n ih =>
    have h5 := ih (by omega)
    have h6 := ma_step (y := y) (m := m + n) (by omega) (by omega)
    rw [show m + ((n + 1 : Nat) : Int) = m + n + 1 by omega]
    omega
/-- A date's number. -/
def num (y m d : Int) : Int := ya y + ma y m + d - 1
theorem num_month {y m d : Int} (h : ok y m d) : ya y + ma y m ≤ num y m d ∧ num y m d < ya y + ma y (m + 1) := by
  obtain ⟨⟨y0, y1⟩, ⟨m0, m1⟩, _⟩ := ok_in h
  rw [ma_next y0 y1 m0 m1]
  obtain ⟨h1, h2⟩ := h
  unfold num; omega
theorem num_year {y m d : Int} (h : ok y m d) : ya y ≤ num y m d ∧ num y m d < ya (y + 1) := by
  obtain ⟨_, ⟨m0, m1⟩, _⟩ := ok_in h
  have h1 := num_month h
  have h2 := ma_mono (y := y) (show 1 ≤ (1 : Int) by omega) m0 (by omega)
  have h3 := ma_mono (y := y) (m := m + 1) (k := 13) (by omega) (by omega) (by omega)
  rw [ma_first] at h2
  rw [ma_all] at h3
  rw [ya_next]; omega
theorem num_range {y m d : Int} (h : ok y m d) : 0 ≤ num y m d ∧ num y m d ≤ 401766 := by
  obtain ⟨⟨y0, y1⟩, _⟩ := ok_in h
  have h1 := num_year h
  have h2 := ya_mono y0
  have h3 := ya_mono (show y + 1 ≤ 3000 by omega)
  rw [ya_first] at h2; rw [ya_last] at h3
  omega
/-- Dates go with their numbers: by year, month and day. -/
theorem num_lt {y m d y' m' d' : Int} (h : ok y m d) (h' : ok y' m' d') : num y m d < num y' m' d' ↔ y < y' ∨ (y = y' ∧ (m < m' ∨ (m = m' ∧ d < d'))) := by
  obtain ⟨⟨y0, y1⟩, ⟨m0, m1⟩, _⟩ := ok_in h
  obtain ⟨⟨y0', y1'⟩, ⟨m0', m1'⟩, _⟩ := ok_in h'
  have h1 := num_year h; have h1' := num_year h'
  by_cases e : y = y'
  · subst e
    have h2 := num_month h; have h2' := num_month h'
    by_cases e : m = m'
    · subst e; unfold num; omega
    · by_cases e : m < m'
      · have := ma_mono (y := y) (m := m + 1) (k := m') (by omega) (by omega) (by omega)
        constructor
        · intro _; exact .inr ⟨rfl, .inl e⟩
        · intro _; omega
      · have := ma_mono (y := y) (m := m' + 1) (k := m) (by omega) (by omega) (by omega)
        constructor
        · intro _; omega
        · intro _; omega
  · by_cases e : y < y'
    · have := ya_up e
      constructor
      · intro _; exact .inl e
      · intro _; omega
    · have := ya_up (show y' < y by omega)
      constructor
      · intro _; omega
      · intro _; omega
theorem num_eq {y m d y' m' d' : Int} (h : ok y m d) (h' : ok y' m' d') (e : num y m d = num y' m' d') : y = y' ∧ m = m' ∧ d = d' := by
  have h1 := num_lt h h'; have h2 := num_lt h' h
  omega
/-- The day behind. -/
def nxY (y m d : Int) : Int := if d + 1 ≤ len y m then y else if m + 1 ≤ 12 then y else y + 1
def nxM (y m d : Int) : Int := if d + 1 ≤ len y m then m else if m + 1 ≤ 12 then m + 1 else 1
def nxD (y m d : Int) : Int := if d + 1 ≤ len y m then d + 1 else 1
theorem len_pos {y m : Int} (h0 : 1900 ≤ y) (h1 : y ≤ 2999) (h2 : 1 ≤ m) (h3 : m ≤ 12) : 28 ≤ len y m := by
  have := lp_cases y
  rw [len_in h0 h1 h2 h3]; (repeat' split) <;> omega
theorem nx_num {y m d : Int} (h : ok y m d) : num (nxY y m d) (nxM y m d) (nxD y m d) = num y m d + 1 := by
  obtain ⟨⟨y0, y1⟩, ⟨m0, m1⟩, _⟩ := ok_in h
  obtain ⟨d0, d1⟩ := h
  unfold nxY nxM nxD
  by_cases h1 : d + 1 ≤ len y m
  · rw [if_pos h1, if_pos h1, if_pos h1]; unfold num; omega
  · rw [if_neg h1, if_neg h1, if_neg h1]
    have h2 := ma_next y0 y1 m0 m1
    by_cases h3 : m + 1 ≤ 12
    · rw [if_pos h3, if_pos h3]; unfold num; omega
    · rw [if_neg h3, if_neg h3]
      obtain rfl : m = 12 := by omega
      rw [show (12 : Int) + 1 = 13 by omega, ma_all] at h2
      unfold num; rw [ya_next, ma_first]; omega
theorem nx_ok {y m d : Int} (h : ok y m d) (hl : num y m d < 401766) : ok (nxY y m d) (nxM y m d) (nxD y m d) := by
  obtain ⟨⟨y0, y1⟩, ⟨m0, m1⟩, _⟩ := ok_in h
  have hn := nx_num h
  obtain ⟨d0, d1⟩ := h
  unfold nxY nxM nxD at hn ⊢
  by_cases h1 : d + 1 ≤ len y m
  · rw [if_pos h1, if_pos h1, if_pos h1]; exact ⟨by omega, h1⟩
  · rw [if_neg h1, if_neg h1, if_neg h1] at hn ⊢
    by_cases h3 : m + 1 ≤ 12
    · rw [if_pos h3, if_pos h3]
      exact ⟨by omega, by have := len_pos y0 y1 (show 1 ≤ m + 1 by omega) h3; omega⟩
    · rw [if_neg h3, if_neg h3] at hn ⊢
      have hy : y ≠ 2999 := by
        intro e; subst e
        have h9 : num (2999 + 1) 1 1 = 401767 := rfl
        omega
      exact ⟨by omega, by have := len_pos (show 1900 ≤ y + 1 by omega) (by omega) (show (1 : Int) ≤ 1 by omega) (by omega); omega⟩
theorem ok_first : ok 1900 1 1 := by decide
theorem num_first : num 1900 1 1 = 0 := rfl
theorem ok_last : ok 2999 12 31 := by decide
theorem num_last : num 2999 12 31 = 401766 := rfl
/-- Of any number there is the date. -/
theorem of_num : ∀ n : Nat, n ≤ 401766 → ∃ y m d, ok y m d ∧ num y m d = (n : Int) := by
  intro n
  induction n with
  | zero => intro _; exact ⟨1900, 1, 1, ok_first, num_first⟩
  | succ n ih =>
    intro h
    obtain ⟨y, m, d, h1, h2⟩ := ih (by omega)
    exact ⟨_, _, _, nx_ok h1 (by omega), by rw [nx_num h1, h2]; omega⟩
theorem of_int {n : Int} (h0 : 0 ≤ n) (h1 : n ≤ 401766) : ∃ y m d, ok y m d ∧ num y m d = n := by
  obtain ⟨y, m, d, h2, h3⟩ := of_num n.toNat (by omega)
  exact ⟨y, m, d, h2, by omega⟩

/-- The numbers of a period's first day and last day; of none, 1 and 0. -/
def pOk (p : Int) : Prop := 22800 ≤ p ∧ p ≤ 35999
instance (p : Int) : Decidable (pOk p) := by unfold pOk; infer_instance
def lo (p : Int) : Int := if pOk p then num (p / 12) (p % 12 + 1) 1 else 1
def hi (p : Int) : Int := if pOk p then num (p / 12) (p % 12 + 1) (len (p / 12) (p % 12 + 1)) else 0
theorem per_ok {y m d : Int} (h : ok y m d) : pOk (12 * y + m - 1) ∧ (12 * y + m - 1) / 12 = y ∧ (12 * y + m - 1) % 12 + 1 = m := by
  have := ok_in h
  unfold pOk; omega
/-- A date is of a period just if its number lies between. -/
theorem per_iff {y m d p : Int} (h : ok y m d) : 12 * y + m - 1 = p ↔ lo p ≤ num y m d ∧ num y m d ≤ hi p := by
  obtain ⟨⟨y0, y1⟩, ⟨m0, m1⟩, d0, d1⟩ := ok_in h
  constructor
  · rintro rfl
    obtain ⟨h1, h2, h3⟩ := per_ok h
    unfold lo hi
    rw [if_pos h1, if_pos h1, h2, h3]
    obtain ⟨k1, k2⟩ := h
    unfold num; omega
  · unfold lo hi
    by_cases hp : pOk p
    · rw [if_pos hp, if_pos hp]
      rintro ⟨h1, h2⟩
      have hr : 1900 ≤ p / 12 ∧ p / 12 ≤ 2999 ∧ 1 ≤ p % 12 + 1 ∧ p % 12 + 1 ≤ 12 := by unfold pOk at hp; omega
      have hl := len_pos hr.1 hr.2.1 hr.2.2.1 hr.2.2.2
      have o1 : ok (p / 12) (p % 12 + 1) 1 := ⟨by omega, by omega⟩
      have o2 : ok (p / 12) (p % 12 + 1) (len (p / 12) (p % 12 + 1)) := ⟨by omega, Int.le_refl _⟩
      have l1 := num_lt h o1; have l2 := num_lt o2 h
      omega
    · rw [if_neg hp, if_neg hp]
      rintro ⟨h1, h2⟩; omega
/-- How many days of a period are from the number a to the number b. -/
def cnt (a b p : Int) : Int := max 0 (min b (hi p) - max a (lo p) + 1)
theorem cnt_one (a p : Int) : cnt a a p = if lo p ≤ a ∧ a ≤ hi p then 1 else 0 := by
  unfold cnt; split <;> omega
theorem cnt_next {a b p : Int} (h : a ≤ b) : cnt a (b + 1) p = cnt a b p + if lo p ≤ b + 1 ∧ b + 1 ≤ hi p then 1 else 0 := by
  unfold cnt; split <;> omega
theorem cnt_none {a b p : Int} (h : b < a) : cnt a b p = 0 := by unfold cnt; omega
/-- How many days of a period are from a date to another one. -/
def days (y m d y' m' d' p : Int) : Int := if ok y m d ∧ ok y' m' d' then cnt (num y m d) (num y' m' d') p else 0
end PDate
