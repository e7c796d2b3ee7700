/-
  Which of two payments is ahead; is one a payment: what the landed bank answers.
-/
import Derived.Test.YtbnnmakmgleikaaDoorBkRow
import Derived.Test.YtbnnmakmgleikaaDoorBoxKit
import Derived.Test.YtbnnmakmgleikaaDoorShelf
import Derived.Deep.RegionWith
set_option linter.unusedVariables false
namespace Go.Proofs.YtbnnmakmgleikaaDoor
open Go.RowKit
open PBank (Pay)

def cmp3 (a b : Int) : Int := if a < b then -1 else if b < a then 1 else 0
theorem cmp3_is (a b : Int) : Lib.compareInt a b = cmp3 a b := by
  unfold Lib.compareInt cmp3
  (repeat' split) <;> omega
/-- Below 0: the first one is ahead; 0: of one kind and number. -/
def cmpV (p q : Pay) : Int := if cmp3 q.kind p.kind ≠ 0 then cmp3 q.kind p.kind else cmp3 p.num q.num
theorem cmpV_lt (p q : Pay) : cmpV p q < 0 ↔ PBank.lt p q = true := by
  unfold cmpV cmp3 PBank.lt
  rw [decide_eq_true_eq]
  (repeat' split) <;> omega
theorem cmpV_size (p q : Pay) : -1 ≤ cmpV p q ∧ cmpV p q ≤ 1 := by
  unfold cmpV cmp3
  (repeat' split) <;> omega
theorem nan_u8 (x : Int) (w : World) : Calls Tryd.prog 52 #[.int .u8 x] w fun e w' => e = .returned (.bool false) ∧ w' = w := by
  go_enter Tryd.func52, Tryd.ntmps52
  go_wp2
  go_ret
  exact ⟨by simp, rfl⟩
theorem cmp_u8 (x y : Int) (w : World) : Calls Tryd.prog 36 #[.int .u8 x, .int .u8 y] w fun e w' => e = .returned (.int .i64 (cmp3 x y)) ∧ w' = w := by
  obtain ⟨Q, hQ⟩ : ∃ Q : Ending → World → Prop, (fun e w' => e = .returned (.int .i64 (cmp3 x y)) ∧ w' = w) = Q := ⟨_, rfl⟩
  rw [hQ]
  by_cases h : x < y
  · have FIN : Hid (Q (.returned (.int .i64 (-1))) w) := Lib.hid (by rw [← hQ]; exact ⟨by unfold cmp3; rw [if_pos h], rfl⟩)
    clear hQ
    go_enter Tryd.func36, Tryd.ntmps36
    go_wp2_with (go_at_call 52; refine (nan_u8 _ _).mono ?_; rintro e w' ⟨rfl, rfl⟩)
    exact FIN.out
  · by_cases h2 : y < x
    · have FIN : Hid (Q (.returned (.int .i64 1)) w) := Lib.hid (by rw [← hQ]; exact ⟨by unfold cmp3; rw [if_neg h, if_pos h2], rfl⟩)
      clear hQ
      go_enter Tryd.func36, Tryd.ntmps36
      go_wp2_with (go_at_call 52; refine (nan_u8 _ _).mono ?_; rintro e w' ⟨rfl, rfl⟩)
      exact FIN.out
    · have FIN : Hid (Q (.returned (.int .i64 0)) w) := Lib.hid (by rw [← hQ]; exact ⟨by unfold cmp3; rw [if_neg h, if_neg h2], rfl⟩)
      clear hQ
      go_enter Tryd.func36, Tryd.ntmps36
      go_wp2_with (go_at_call 52; refine (nan_u8 _ _).mono ?_; rintro e w' ⟨rfl, rfl⟩)
      exact FIN.out
/-- The first of two numbers that is not 0. -/
theorem or_two (x y : Int) (w : World) {B : Nat} (h0 : w.cell? ⟨B, 0, none⟩ = some (.int .i64 x)) (h1 : w.cell? ⟨B, 1, none⟩ = some (.int .i64 y)) :
    Calls Tryd.prog 35 #[.slice (some ⟨B, 0, none⟩) 2 2] w fun e w' => e = .returned (.int .i64 (if x ≠ 0 then x else y)) ∧ Below w.heap.size w w' := by
  obtain ⟨Q, hQ⟩ : ∃ Q : Ending → World → Prop, (fun e w' => e = .returned (.int .i64 (if x ≠ 0 then x else y)) ∧ Below w.heap.size w w') = Q := ⟨_, rfl⟩
  rw [hQ]
  have hs := World.block_lt_of_cell? w _ h0
  by_cases hx : x = 0
  · subst hx
    have gx : ((0 : Int) != 0) = false := rfl
    by_cases hy : y = 0
    · subst hy
      have FIN : Hid (∀ w', Below w.heap.size w w' → Q (.returned (.int .i64 0)) w') := Lib.hid (fun w' a => by rw [← hQ]; exact ⟨rfl, a⟩)
      clear hQ
      go_enter Tryd.func35, Tryd.ntmps35
      go_wp2
      go_loopw [8] (fun i wr => ∃ j : Nat, i = .int .i64 j ∧ j ≤ 2 ∧ Hid (Below w.heap.size w wr)) (fun i _ => 2 - (intOf i).toNat)
      case atStart => exact ⟨0, rfl, by decide, Lib.hid (Below.refl _ _)⟩
      case round =>
        obtain ⟨j, rfl, hj, HB⟩ := hrel
        have c0 := (HB.out.cell hs).trans h0; have c1 := (HB.out.cell (p := ⟨B, 1, none⟩) hs).trans h1
        have hs2 := World.block_lt_of_cell? wr _ c0
        have hc : j = 0 ∨ j = 1 ∨ j = 2 := by omega
        rcases hc with rfl | rfl | rfl
        · go_wp2_with fail
          exact ⟨⟨1, rfl, by decide, HB⟩, by simp [intOf]⟩
        · go_wp2_with fail
          exact ⟨⟨2, rfl, by decide, HB⟩, by simp [intOf]⟩
        · go_wp2_with fail
          exact FIN.out _ HB.out
    · have gy : (y != 0) = true := by simpa using hy
      have FIN : Hid (∀ w', Below w.heap.size w w' → Q (.returned (.int .i64 y)) w') := Lib.hid (fun w' a => by rw [← hQ]; exact ⟨rfl, a⟩)
      clear hQ
      go_enter Tryd.func35, Tryd.ntmps35
      go_wp2
      go_loopw [8] (fun i wr => ∃ j : Nat, i = .int .i64 j ∧ j ≤ 1 ∧ Hid (Below w.heap.size w wr)) (fun i _ => 2 - (intOf i).toNat)
      case atStart => exact ⟨0, rfl, by decide, Lib.hid (Below.refl _ _)⟩
      case round =>
        obtain ⟨j, rfl, hj, HB⟩ := hrel
        have c0 := (HB.out.cell hs).trans h0; have c1 := (HB.out.cell (p := ⟨B, 1, none⟩) hs).trans h1
        have hs2 := World.block_lt_of_cell? wr _ c0
        have hc : j = 0 ∨ j = 1 := by omega
        rcases hc with rfl | rfl
        · go_wp2_with fail
          exact ⟨⟨1, rfl, by decide, HB⟩, by simp [intOf]⟩
        · go_wp2_with fail
          exact FIN.out _ HB.out
  · have gx : (x != 0) = true := by simpa using hx
    have FIN : Hid (∀ w', Below w.heap.size w w' → Q (.returned (.int .i64 x)) w') := Lib.hid (fun w' a => by rw [← hQ]; exact ⟨by rw [if_pos hx], a⟩)
    clear hQ
    go_enter Tryd.func35, Tryd.ntmps35
    go_wp2
    go_loopw [8] (fun i wr => i = .int .i64 0 ∧ Hid (Below w.heap.size w wr)) (fun i _ => 2 - (intOf i).toNat)
    case atStart => exact ⟨rfl, Lib.hid (Below.refl _ _)⟩
    case round =>
      obtain ⟨rfl, HB⟩ := hrel
      have c0 := (HB.out.cell hs).trans h0
      have hs2 := World.block_lt_of_cell? wr _ c0
      go_wp2_with fail
      exact FIN.out _ HB.out
end Go.Proofs.YtbnnmakmgleikaaDoor
