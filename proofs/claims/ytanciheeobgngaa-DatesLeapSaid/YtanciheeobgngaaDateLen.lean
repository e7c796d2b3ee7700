/-
  What package dates answers: leap years, the lengths of months, days ahead of a year.
-/
import Derived.Test.YtanciheeobgngaaDateKit
import Derived.Deep.QuietTactic
import Derived.BigQuiet
namespace Go.Proofs.Ytanciheeobgngaa
open Go.RowKit

set_option maxHeartbeats 1600000 in
theorem dleap_any (y : Int) (w : World) (h0 : 1900 ≤ y) (h1 : y ≤ 2999) :
    Calls Try.prog 22 #[.int .i64 y] w fun e w' => e = .returned (.bool (decide (PDate.lp y = 1))) ∧ Below w.heap.size w w' := by
  by_cases k1 : y % 4 = 0
  · have b1 : (y % 4 == 0) = true := by rw [k1]; rfl
    by_cases k2 : y % 100 = 0
    · have b2 : (y % 100 != 0) = false := by rw [k2]; rfl
      by_cases k4 : y % 400 = 0
      · have b4 : (y % 400 == 0) = true := by rw [k4]; rfl
        have hl : PDate.lp y = 1 := by unfold PDate.lp; rw [if_pos (by omega)]
        rw [hl]
        clear hl
        go_enter Try.func22, Try.ntmps22
        go_wp2_with fail
        go_ret
        exact ⟨rfl, Below.refl _ _⟩
      · have b4 : (y % 400 == 0) = false := by rw [beq_eq_false_iff_ne]; exact k4
        have hl : PDate.lp y = 0 := by unfold PDate.lp; rw [if_neg (by omega)]
        rw [hl]
        clear hl
        go_enter Try.func22, Try.ntmps22
        go_wp2_with fail
        go_ret
        exact ⟨rfl, Below.refl _ _⟩
    · have b2 : (y % 100 != 0) = true := by rw [bne_iff_ne]; exact k2
      have hl : PDate.lp y = 1 := by unfold PDate.lp; rw [if_pos (by omega)]
      rw [hl]
      clear hl
      go_enter Try.func22, Try.ntmps22
      go_wp2_with fail
      go_ret
      exact ⟨rfl, Below.refl _ _⟩
  · have b1 : (y % 4 == 0) = false := by rw [beq_eq_false_iff_ne]; exact k1
    have b4 : (y % 400 == 0) = false := by rw [beq_eq_false_iff_ne]; omega
    have hl : PDate.lp y = 0 := by unfold PDate.lp; rw [if_neg (by omega)]
    rw [hl]
    clear hl
    go_enter Try.func22, Try.ntmps22
    go_wp2_with fail
    go_ret
    exact ⟨rfl, Below.refl _ _⟩

theorem dlen_out (y m : Int) (w : World) (h : y < 1900 ∨ 2999 < y ∨ m < 1 ∨ 12 < m) :
    Calls Try.prog 14 #[.int .i64 y, .int .i64 m] w fun e w' => e = .returned (.int .i64 0) ∧ Below w.heap.size w w' := by
  rcases h with h | h | h | h
  · go_enter Try.func14, Try.ntmps14
    go_wp2_with fail
    go_ret
    exact ⟨rfl, Below.refl _ _⟩
  all_goals
    go_enter Try.func14, Try.ntmps14
    go_wp2_with fail
    all_goals
      go_ret
      exact ⟨rfl, Below.refl _ _⟩
set_option maxHeartbeats 1600000 in
theorem dlen_two (y : Int) (w : World) (h0 : 1900 ≤ y) (h1 : y ≤ 2999) :
    Calls Try.prog 14 #[.int .i64 y, .int .i64 2] w fun e w' => e = .returned (.int .i64 (28 + PDate.lp y)) ∧ Below w.heap.size w w' := by
  have HL : Hid (∀ w, Calls Try.prog 22 #[.int .i64 y] w fun e w' => e = .returned (.bool (decide (PDate.lp y = 1))) ∧ Below w.heap.size w w') := Lib.hid (fun w => dleap_any y w h0 h1)
  rcases PDate.lp_cases y with e | e
  all_goals
    rw [e] at HL ⊢
    clear e
    go_enter Try.func14, Try.ntmps14
    go_wp2_with fail
    refine (HL.out _).mono ?_
    rintro _ w1 ⟨rfl, b⟩
    have B := Lib.hid b
    clear b
    go_wp2_with fail
    go_ret
    exact ⟨rfl, B.out⟩
set_option maxHeartbeats 1600000 in
theorem dlen_in (y m : Int) (w : World) (h0 : 1900 ≤ y) (h1 : y ≤ 2999) (h2 : 1 ≤ m) (h3 : m ≤ 12) :
    Calls Try.prog 14 #[.int .i64 y, .int .i64 m] w fun e w' => e = .returned (.int .i64 (PDate.len y m)) ∧ Below w.heap.size w w' := by
  rw [PDate.len_in h0 h1 h2 h3]
  by_cases e : m = 2
  · subst e; exact dlen_two y w h0 h1
  rw [if_neg e]
  have hm : m = 1 ∨ m = 3 ∨ m = 4 ∨ m = 5 ∨ m = 6 ∨ m = 7 ∨ m = 8 ∨ m = 9 ∨ m = 10 ∨ m = 11 ∨ m = 12 := by omega
  clear h2 h3
  rcases hm with rfl | rfl | rfl | rfl | rfl | rfl | rfl | rfl | rfl | rfl | rfl
  all_goals
    clear e
    go_enter Try.func14, Try.ntmps14
    go_wp2_with fail
    go_ret
    exact ⟨rfl, Below.refl _ _⟩
theorem dlen_all (y m : Int) (w : World) :
    Calls Try.prog 14 #[.int .i64 y, .int .i64 m] w fun e w' => e = .returned (.int .i64 (PDate.len y m)) ∧ Below w.heap.size w w' := by
  by_cases h : y < 1900 ∨ 2999 < y ∨ m < 1 ∨ 12 < m
  · rw [PDate.len_out h]; exact dlen_out y m w h
  · exact dlen_in y m w (by omega) (by omega) (by omega) (by omega)
/-- How many leap years are ahead of a year. -/
theorem dleaps_any (y : Int) (w : World) (h0 : 1900 ≤ y) (h1 : y ≤ 3000) :
    Calls Try.prog 23 #[.int .i64 y] w fun e w' => e = .returned (.int .i64 (PDate.ya y - 365 * (y - 1900) + 460)) ∧ Below w.heap.size w w' := by
  have HE : Hid (∀ x, x = y - 1 → x / 4 - x / 100 + x / 400 = PDate.ya y - 365 * (y - 1900) + 460) := Lib.hid (by rintro x rfl; unfold PDate.ya; omega)
  have q1 : 0 ≤ (y - 1) / 4 ∧ (y - 1) / 4 ≤ 3000 := by omega
  have q2 : 0 ≤ (y - 1) / 100 ∧ (y - 1) / 100 ≤ 3000 := by omega
  have q3 : 0 ≤ (y - 1) / 400 ∧ (y - 1) / 400 ≤ 3000 := by omega
  go_enter Try.func23, Try.ntmps23
  go_wp2_with fail
  go_ret
  exact ⟨by rw [← HE.out _ rfl]; rfl, Below.refl _ _⟩
/-- How many days are ahead of a year. -/
theorem dahead_any (y : Int) (w : World) (h0 : 1900 ≤ y) (h1 : y ≤ 3000) :
    Calls Try.prog 21 #[.int .i64 y] w fun e w' => e = .returned (.int .i64 (PDate.ya y)) ∧ Below w.heap.size w w' := by
  have HL : Hid (∀ y w, 1900 ≤ y → y ≤ 3000 → Calls Try.prog 23 #[.int .i64 y] w fun e w' => e = .returned (.int .i64 (PDate.ya y - 365 * (y - 1900) + 460)) ∧ Below w.heap.size w w') := Lib.hid dleaps_any
  have hm1 := PDate.ya_mono h0
  have hm2 := PDate.ya_mono h1
  rw [PDate.ya_first] at hm1; rw [PDate.ya_last] at hm2
  obtain ⟨s, hs⟩ : ∃ s, PDate.ya y - 365 * (y - 1900) + 460 = s := ⟨_, rfl⟩
  have HE : Hid (365 * (y - 1900) + s - 460 = PDate.ya y) := Lib.hid (by omega)
  have s0 : 0 ≤ s := by rw [← hs]; unfold PDate.ya; omega
  have s1 : s ≤ 500000 := by rw [← hs]; unfold PDate.ya; omega
  go_enter Try.func21, Try.ntmps21
  clear hm1 hm2
  have HS := Lib.hid hs
  clear hs
  go_wp2_with fail
  refine (HL.out y _ h0 h1).mono ?_
  rintro _ w1 ⟨rfl, b⟩
  have B := Lib.hid b
  clear b
  rw [HS.out]
  go_wp2_with fail
  refine (HL.out 1900 _ (by omega) (by omega)).mono ?_
  rintro _ w2 ⟨rfl, b⟩
  have B2 := Lib.hid (below_step B.out b)
  clear b B
  rw [show PDate.ya 1900 - 365 * (1900 - 1900) + 460 = 460 from rfl]
  go_wp2_with fail
  go_ret
  exact ⟨by rw [← HE.out]; rfl, B2.out⟩

set_option maxHeartbeats 1600000 in
theorem dright_all (y m d : Int) (w : World) :
    Calls Try.prog 13 #[reD y m d] w fun e w' => e = .returned (.bool (decide (PDate.ok y m d))) ∧ Below w.heap.size w w' := by
  have HL : Hid (∀ w, Calls Try.prog 14 #[.int .i64 y, .int .i64 m] w fun e w' => e = .returned (.int .i64 (PDate.len y m)) ∧ Below w.heap.size w w') := Lib.hid (dlen_all y m)
  unfold reD
  by_cases h0 : 1 ≤ d
  · have g0 : decide (1 ≤ d) = true := decide_eq_true h0
    obtain ⟨L, hL⟩ : ∃ L, PDate.len y m = L := ⟨_, rfl⟩
    have HR : Hid (decide (PDate.ok y m d) = decide (d ≤ L)) := Lib.hid (by
      rw [← hL]; unfold PDate.ok; simp [show 0 < d by omega])
    rw [hL] at HL
    clear hL
    go_enter Try.func13, Try.ntmps13
    go_wp2_with fail
    go_region_held3 (fun w' => w'.cell? ⟨w.heap.size, 0, none⟩ = some (.int .i64 y) ∧ w'.cell? ⟨w.heap.size, 1, none⟩ = some (.int .i64 m) ∧ w'.cell? ⟨w.heap.size, 2, none⟩ = some (.int .i64 d))
      (first
        | go_keep
        | (refine ⟨?_, ?_, ?_⟩ <;> exact (hb7.cell (by simp)).trans (by go_simp)))
      (first
        | (go_at_call 14; refine (HL.out _).mono ?_; rintro _ w7 ⟨rfl, hb7⟩))
    all_goals
      have B7 : Hid (Below w.heap.size w w7) := Lib.hid (below_step (by repeat' (first | exact Below.refl _ _ | apply Below.drew | (refine Below.alloc ?_ ?_ _) | (simp; done) | (simp; omega))) hb7)
      clear hb7
      go_wp2_with fail
      go_ret
      exact ⟨by rw [HR.out]; rfl, B7.out⟩
  · have g0 : decide (1 ≤ d) = false := decide_eq_false h0
    have HR : Hid (decide (PDate.ok y m d) = false) := Lib.hid (decide_eq_false (fun h => h0 (by have := h.1; omega)))
    clear HL h0
    go_enter Try.func13, Try.ntmps13
    go_wp2_with fail
    go_big_quiet (fail)
    go_wp2_with fail
    go_ret
    exact ⟨by rw [HR.out]; rfl, below_drewN' ((Below.refl _ _).alloc (Nat.le_refl _) _) _⟩
end Go.Proofs.Ytanciheeobgngaa
