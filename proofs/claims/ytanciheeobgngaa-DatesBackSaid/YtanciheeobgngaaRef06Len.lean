/-
  What the reference of layer 6 answers: the lengths of months.
-/
import Derived.Test.YtanciheeobgngaaDateKit
import Derived.Deep.QuietTactic
import Derived.BigQuiet
namespace Go.Proofs.Ytanciheeobgngaa
open Go.RowKit

theorem reflen_out (y m : Int) (w : World) (h : y < 1900 ∨ 2999 < y ∨ m < 1 ∨ 12 < m) :
    Calls Try.prog 15 #[.int .i64 y, .int .i64 m] w fun e w' => e = .returned (.int .i64 0) ∧ Below w.heap.size w w' := by
  rcases h with h | h | h | h
  · go_enter Try.func15, Try.ntmps15
    go_wp2_with fail
    go_ret
    exact ⟨rfl, Below.refl _ _⟩
  all_goals
    go_enter Try.func15, Try.ntmps15
    go_wp2_with fail
    all_goals
      go_ret
      exact ⟨rfl, Below.refl _ _⟩
set_option maxHeartbeats 1600000 in
theorem reflen_two (y : Int) (w : World) (h0 : 1900 ≤ y) (h1 : y ≤ 2999) :
    Calls Try.prog 15 #[.int .i64 y, .int .i64 2] w fun e w' => e = .returned (.int .i64 (28 + PDate.lp y)) ∧ Below w.heap.size w w' := by
  by_cases k4 : y % 400 = 0
  · have hl : PDate.lp y = 1 := by unfold PDate.lp; rw [if_pos (.inl k4)]
    rw [hl]
    clear hl
    go_enter Try.func15, Try.ntmps15
    go_wp2_with fail
    go_ret
    exact ⟨rfl, (Below.refl _ _).alloc (Nat.le_refl _) _⟩
  have b4 : (y % 400 == 0) = false := by rw [beq_eq_false_iff_ne]; exact k4
  by_cases k1 : y % 4 = 0
  · have b1 : (y % 4 == 0) = true := by rw [k1]; rfl
    by_cases k2 : y % 100 = 0
    · have b2 : (y % 100 != 0) = false := by rw [k2]; rfl
      have hl : PDate.lp y = 0 := by unfold PDate.lp; rw [if_neg (by omega)]
      rw [hl]
      clear hl
      go_enter Try.func15, Try.ntmps15
      go_wp2_with fail
      go_ret
      exact ⟨rfl, (Below.refl _ _).alloc (Nat.le_refl _) _⟩
    · have b2 : (y % 100 != 0) = true := by rw [bne_iff_ne]; exact k2
      have hl : PDate.lp y = 1 := by unfold PDate.lp; rw [if_pos (by omega)]
      rw [hl]
      clear hl
      go_enter Try.func15, Try.ntmps15
      go_wp2_with fail
      go_ret
      exact ⟨rfl, (Below.refl _ _).alloc (Nat.le_refl _) _⟩
  · have b1 : (y % 4 == 0) = false := by rw [beq_eq_false_iff_ne]; exact k1
    have hl : PDate.lp y = 0 := by unfold PDate.lp; rw [if_neg (by omega)]
    rw [hl]
    clear hl
    go_enter Try.func15, Try.ntmps15
    go_wp2_with fail
    go_ret
    exact ⟨rfl, (Below.refl _ _).alloc (Nat.le_refl _) _⟩
set_option maxHeartbeats 1600000 in
theorem reflen_in (y m : Int) (w : World) (h0 : 1900 ≤ y) (h1 : y ≤ 2999) (h2 : 1 ≤ m) (h3 : m ≤ 12) :
    Calls Try.prog 15 #[.int .i64 y, .int .i64 m] w fun e w' => e = .returned (.int .i64 (PDate.len y m)) ∧ Below w.heap.size w w' := by
  rw [PDate.len_in h0 h1 h2 h3]
  by_cases e : m = 2
  · subst e; exact reflen_two y w h0 h1
  rw [if_neg e]
  have hm : m = 1 ∨ m = 3 ∨ m = 4 ∨ m = 5 ∨ m = 6 ∨ m = 7 ∨ m = 8 ∨ m = 9 ∨ m = 10 ∨ m = 11 ∨ m = 12 := by omega
  clear h2 h3
  rcases hm with rfl | rfl | rfl | rfl | rfl | rfl | rfl | rfl | rfl | rfl | rfl
  all_goals
    clear e
    go_enter Try.func15, Try.ntmps15
    go_wp2_with fail
    go_ret
    exact ⟨rfl, (Below.refl _ _).alloc (Nat.le_refl _) _⟩
theorem reflen_any (y m : Int) (w : World) :
    Calls Try.prog 15 #[.int .i64 y, .int .i64 m] w fun e w' => e = .returned (.int .i64 (PDate.len y m)) ∧ Below w.heap.size w w' := by
  by_cases h : y < 1900 ∨ 2999 < y ∨ m < 1 ∨ 12 < m
  · rw [PDate.len_out h]; exact reflen_out y m w h
  · exact reflen_in y m w (by omega) (by omega) (by omega) (by omega)

end Go.Proofs.Ytanciheeobgngaa
