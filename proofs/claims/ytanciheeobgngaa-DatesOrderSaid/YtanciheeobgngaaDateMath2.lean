/-
  Dates: days of a period, of a year. Plain facts; no program is named here.
-/
import Derived.Test.YtanciheeobgngaaDateMath
namespace PDate

theorem days_ok {y m d y' m' d' p : Int} (h : ok y m d) (h' : ok y' m' d') : days y m d y' m' d' p = cnt (num y m d) (num y' m' d') p := if_pos ⟨h, h'⟩
theorem first_ok {y m : Int} (h0 : 1900 ≤ y) (h1 : y ≤ 2999) (h2 : 1 ≤ m) (h3 : m ≤ 12) : ok y m 1 := ⟨by omega, by have := len_pos h0 h1 h2 h3; omega⟩
theorem last_ok {y m : Int} (h0 : 1900 ≤ y) (h1 : y ≤ 2999) (h2 : 1 ≤ m) (h3 : m ≤ 12) : ok y m (len y m) := ⟨by have := len_pos h0 h1 h2 h3; omega, Int.le_refl _⟩
theorem lo_in {y m : Int} (h0 : 1900 ≤ y) (h1 : y ≤ 2999) (h2 : 1 ≤ m) (h3 : m ≤ 12) : lo (12 * y + m - 1) = num y m 1 := by
  unfold lo; rw [if_pos (by unfold pOk; omega), show (12 * y + m - 1) / 12 = y by omega, show (12 * y + m - 1) % 12 + 1 = m by omega]
theorem hi_in {y m : Int} (h0 : 1900 ≤ y) (h1 : y ≤ 2999) (h2 : 1 ≤ m) (h3 : m ≤ 12) : hi (12 * y + m - 1) = num y m (len y m) := by
  unfold hi; rw [if_pos (by unfold pOk; omega), show (12 * y + m - 1) / 12 = y by omega, show (12 * y + m - 1) % 12 + 1 = m by omega]
theorem dec_last {y : Int} (h0 : 1900 ≤ y) (h1 : y ≤ 2999) : ok y 12 31 := ⟨by omega, by rw [len_in h0 h1 (by omega) (by omega), if_neg (by omega), if_neg (by omega)]; exact Int.le_refl _⟩
theorem le_of_later {y m d y' m' d' : Int} (h : ok y m d) (h' : ok y' m' d') (hl : y < y' ∨ (y = y' ∧ (m < m' ∨ (m = m' ∧ d ≤ d')))) : num y m d ≤ num y' m' d' := by
  have := num_lt h' h
  omega
/-- Of a year's periods each has all its days in it. -/
theorem cnt_year {y m : Int} (h0 : 1900 ≤ y) (h1 : y ≤ 2999) (h2 : 1 ≤ m) (h3 : m ≤ 12) : cnt (num y 1 1) (num y 12 31) (12 * y + m - 1) = len y m := by
  have o1 := first_ok h0 h1 h2 h3
  have o2 := last_ok h0 h1 h2 h3
  have a1 := first_ok h0 h1 (show (1 : Int) ≤ 1 by omega) (by omega)
  have b1 := dec_last h0 h1
  have hl := len_pos h0 h1 h2 h3
  have k1 := le_of_later a1 o1 (by omega)
  have hb := len_bounds y m
  have k2 := le_of_later o2 b1 (by omega)
  have e : num y m (len y m) = num y m 1 + (len y m - 1) := by unfold num; omega
  unfold cnt
  rw [lo_in h0 h1 h2 h3, hi_in h0 h1 h2 h3]
  omega
theorem cnt_ahead {a b y : Int} (h0 : 1900 ≤ y) (h1 : y ≤ 2999) (ha : num y 1 1 ≤ a) : cnt a b (12 * y - 1) = 0 := by
  by_cases e : y = 1900
  · subst e
    have e1 : lo (12 * 1900 - 1) = 1 := rfl
    have e2 : hi (12 * 1900 - 1) = 0 := rfl
    have := num_range (first_ok h0 h1 (show (1 : Int) ≤ 1 by omega) (by omega))
    unfold cnt; rw [e1, e2]; omega
  · have e1 := hi_in (y := y - 1) (m := 12) (by omega) (by omega) (by omega) (by omega)
    rw [show 12 * (y - 1) + 12 - 1 = 12 * y - 1 by omega] at e1
    have k := (num_lt (last_ok (y := y - 1) (m := 12) (by omega) (by omega) (by omega) (by omega)) (first_ok h0 h1 (show (1 : Int) ≤ 1 by omega) (by omega))).2 (by omega)
    unfold cnt; rw [e1]; omega
theorem cnt_behind {a b y : Int} (h0 : 1900 ≤ y) (h1 : y ≤ 2999) (hb : b ≤ num y 12 31) : cnt a b (12 * y + 12) = 0 := by
  by_cases e : y = 2999
  · subst e
    have e1 : lo (12 * 2999 + 12) = 1 := rfl
    have e2 : hi (12 * 2999 + 12) = 0 := rfl
    unfold cnt; rw [e1, e2]; omega
  · have e1 := lo_in (y := y + 1) (m := 1) (by omega) (by omega) (by omega) (by omega)
    rw [show 12 * (y + 1) + 1 - 1 = 12 * y + 12 by omega] at e1
    have k := (num_lt (dec_last h0 h1) (first_ok (y := y + 1) (m := 1) (by omega) (by omega) (by omega) (by omega))).2 (by omega)
    unfold cnt; rw [e1]; omega
theorem cnt_back {y p : Int} (h0 : 1900 ≤ y) (h1 : y ≤ 2999) : cnt (num y 12 31) (num y 1 1) p = 0 :=
  cnt_none ((num_lt (first_ok h0 h1 (show (1 : Int) ≤ 1 by omega) (by omega)) (dec_last h0 h1)).2 (by omega))
/-- The days of a period from its first to its last one, and to any of them. -/
theorem cnt_month {y m : Int} (h0 : 1900 ≤ y) (h1 : y ≤ 2999) (h2 : 1 ≤ m) (h3 : m ≤ 12) {d : Int} (hd : 1 ≤ d) (hd' : d ≤ len y m) : cnt (num y m 1) (num y m d) (12 * y + m - 1) = d := by
  unfold cnt
  rw [lo_in h0 h1 h2 h3, hi_in h0 h1 h2 h3]
  unfold num
  omega
theorem cnt_day {y m : Int} (h0 : 1900 ≤ y) (h1 : y ≤ 2999) (h2 : 1 ≤ m) (h3 : m ≤ 12) {d : Int} (hd : 1 ≤ d) (hd' : d ≤ len y m) : cnt (num y m d) (num y m d) (12 * y + m - 1) = 1 := by
  unfold cnt
  rw [lo_in h0 h1 h2 h3, hi_in h0 h1 h2 h3]
  unfold num
  omega
theorem cnt_later {y m : Int} (h0 : 1900 ≤ y) (h1 : y ≤ 2998) (h2 : 1 ≤ m) (h3 : m ≤ 12) : cnt (num y m 1) (num y m (len y m)) (12 * y + m - 1 + 1) = 0 := by
  have o2 := last_ok h0 (by omega) h2 h3
  by_cases e : m = 12
  · subst e
    have e1 := lo_in (y := y + 1) (m := 1) (by omega) (by omega) (by omega) (by omega)
    rw [show 12 * (y + 1) + 1 - 1 = 12 * y + 12 - 1 + 1 by omega] at e1
    have k := (num_lt o2 (first_ok (y := y + 1) (m := 1) (by omega) (by omega) (by omega) (by omega))).2 (by omega)
    unfold cnt; rw [e1]; omega
  · have e1 := lo_in (y := y) (m := m + 1) (by omega) (by omega) (by omega) (by omega)
    rw [show 12 * y + (m + 1) - 1 = 12 * y + m - 1 + 1 by omega] at e1
    have k := (num_lt o2 (first_ok (y := y) (m := m + 1) (by omega) (by omega) (by omega) (by omega))).2 (by omega)
    unfold cnt; rw [e1]; omega
theorem year_days {y : Int} (h0 : 1900 ≤ y) (h1 : y ≤ 2999) : num y 12 31 - num y 1 1 + 1 = ma y 13 := by
  have h := ma_next h0 h1 (show (1 : Int) ≤ 12 by omega) (by omega)
  rw [len_in h0 h1 (show (1 : Int) ≤ 12 by omega) (by omega)] at h
  rw [if_neg (by omega), if_neg (by omega)] at h
  rw [show (13 : Int) = 12 + 1 by omega, h]
  unfold num; rw [ma_first]; omega
end PDate
