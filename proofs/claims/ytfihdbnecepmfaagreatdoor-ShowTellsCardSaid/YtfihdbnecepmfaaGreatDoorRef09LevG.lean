/-
  What the reference of layer 9 answers: what an operation binds; a text in ( ), if it binds less than it must.
-/
import Derived.Test.YtfihdbnecepmfaaGreatDoorSM
import Derived.Test.YtfihdbnecepmfaaGreatDoorKT
import Derived.Deep.QuietTactic
import Derived.BigQuiet
import Derived.Handy

set_option linter.unusedVariables false
namespace Go.Proofs.YtfihdbnecepmfaaGreatDoor
open Go.RowKit

theorem rb_ne {a b : List UInt8} (h : a ≠ b) : (a == b) = false := beq_eq_false_iff_ne.2 h
def LevAns (z : Nat) (w : World) (e : Ending) (w' : World) : Prop := e = .returned (.int .i64 (z : Nat)) ∧ Below w.heap.size w w'
set_option maxHeartbeats 3200000 in
set_option maxRecDepth 100000 in
theorem r9level_any (op : List UInt8) (w : World) : Calls Tryz.prog 42 #[.string ⟨op.toArray⟩] w (LevAns (PShow.lev op) w) := by
  obtain ⟨z, hz⟩ : ∃ z, PShow.lev op = z := ⟨_, rfl⟩
  rw [hz]
  obtain ⟨Q, hQ⟩ : ∃ Q, LevAns z w = Q := ⟨_, rfl⟩
  rw [hQ]
  obtain ⟨w1, hw1, S1, b1⟩ : ∃ w1, w.alloc (.cells #[.string { data := #[60] }, .string { data := #[60, 61] }, .string { data := #[61] }, .string { data := #[60, 62] }, .string { data := #[62] }, .string { data := #[62, 61] }] 9) = w1 ∧ SlX strR w1 (some ⟨w.heap.size, 0, none⟩) 6 PShow.compL ∧ Below w.heap.size w w1 := ⟨_, rfl, strR_new w 9 PShow.compL, (Below.refl _ _).alloc (Nat.le_refl _) _⟩
  have FIN : Hid (∀ y : Nat, y = z → Q (.returned (.int .i64 (y : Nat))) w1) := Lib.hid (fun y e => by rw [← hQ, e]; exact ⟨rfl, b1⟩)
  have HZ := Lib.hid hz; have HW1 := Lib.hid hw1; have HS := Lib.hid S1
  clear hQ hz hw1 S1 b1
  go_enter Tryz.func42, Tryz.ntmps42
  go_wp2_with fail
  rw [HW1.out]
  clear HW1
  go_loop [7] (fun i => ∃ (t : Nat), t ≤ 6 ∧ i = .int .i64 t ∧ Hid (∀ j (h : j < PShow.compL.length), j < t → PShow.compL[j] ≠ op)) (fun i => 6 - (intOf i).toNat)
  case atStart => exact ⟨0, Nat.zero_le _, rfl, (show Hid _ from fun j _ h => absurd h (Nat.not_lt_zero _))⟩
  case round =>
    obtain ⟨t, ht, rfl, HT⟩ := hrel
    by_cases hlt : t < 6
    · have hlc : t < PShow.compL.length := hlt
      obtain ⟨b, off, e0, hc⟩ := HS.out.at hlt
      obtain ⟨x, hx⟩ : ∃ x, PShow.compL[t] = x := ⟨_, rfl⟩
      have c0 := hc t hlc 0 _ rfl
      have hk : strR.k = 1 := rfl
      rw [hk, Nat.mul_one, Nat.add_zero, hx] at c0
      cases e0
      rw [Nat.zero_add] at c0
      have hsz := World.block_lt_of_cell? w1 _ c0
      have gt : (t : Int) < 6 := by omega
      clear hc
      by_cases e : x = op
      · have he : (x == op) = true := beq_iff_eq.2 e
        have HR : Hid (1 = z) := Lib.hid (by
          rw [← HZ.out]
          unfold PShow.lev
          rw [if_pos (by rw [← e, ← hx]; exact List.getElem_mem hlc)])
        clear e hx
        go_wp2_with fail
        exact FIN.out 1 HR.out
      · have he := rb_ne e
        have HT2 : Hid (∀ j (h : j < PShow.compL.length), j < t + 1 → PShow.compL[j] ≠ op) := Lib.hid (fun j h1 h2 => by
          by_cases ej : j = t
          · subst ej; rw [hx]; exact e
          · exact HT.out j h1 (by omega))
        clear e hx
        go_wp2_with fail
        exact ⟨⟨t + 1, by omega, rfl, HT2⟩, by simp [intOf]; omega⟩
    · have hn : op ∉ PShow.compL := fun k => by
        obtain ⟨j, hj, e⟩ := List.getElem_of_mem k
        exact HT.out j hj (by have : PShow.compL.length = 6 := rfl; omega) e
      have gt : ¬ (t : Int) < 6 := by omega
      have hl := HZ.out
      unfold PShow.lev PCheck.ifS at hl
      rw [if_neg hn] at hl
      by_cases h1 : op = [105, 102]
      · subst h1
        have HR : Hid (0 = z) := Lib.hid hl
        clear hl hn
        go_wp2_with fail
        exact FIN.out 0 HR.out
      rw [if_neg h1] at hl
      by_cases h2 : op = [43]
      · subst h2
        have HR : Hid (2 = z) := Lib.hid hl
        clear hl hn h1
        go_wp2_with fail
        exact FIN.out 2 HR.out
      by_cases h3 : op = [45]
      · subst h3
        have HR : Hid (2 = z) := Lib.hid hl
        clear hl hn h1 h2
        go_wp2_with fail
        exact FIN.out 2 HR.out
      rw [if_neg (by rintro (h | h); exact h2 h; exact h3 h)] at hl
      by_cases h4 : op = [42]
      · subst h4
        have HR : Hid (3 = z) := Lib.hid hl
        clear hl hn h1 h2 h3
        go_wp2_with fail
        exact FIN.out 3 HR.out
      · rw [if_neg h4] at hl
        have HR : Hid (4 = z) := Lib.hid hl
        have e1 := rb_ne h1; have e2 := rb_ne h2; have e3 := rb_ne h3; have e4 := rb_ne h4
        clear hl hn h1 h2 h3 h4
        go_wp2_with fail
        exact FIN.out 4 HR.out
set_option maxHeartbeats 1600000 in
theorem r9held_any {s : List UInt8} {m L : Nat} (hs : s.length ≤ 1000000) (hm : m ≤ 100) (hL : L ≤ 100) (w : World) :
    Calls Tryz.prog 45 #[.string ⟨s.toArray⟩, .int .i64 (m : Nat), .int .i64 (L : Nat)] w fun e w' => e = .returned (.string ⟨(PTree.heldB m L s).toArray⟩) ∧ w' = w := by
  obtain ⟨r, hr⟩ : ∃ r, PTree.heldB m L s = r := ⟨_, rfl⟩
  rw [hr]
  unfold PTree.heldB at hr
  have hl0 : (ByteArray.mk s.toArray).size = s.length := by simp [ByteArray.size]
  have gl1 : ¬ 9223372036854775807 < 1 + s.length := by omega
  have gl2 : ¬ 9223372036854775807 < 1 + s.length + 1 := by omega
  by_cases h : m < L
  · rw [if_pos h] at hr
    have gh : (m : Int) < (L : Int) := by omega
    have HR := Lib.hid hr
    clear hr
    go_enter Tryz.func45, Tryz.ntmps45
    go_wp2_with fail
    go_ret
    refine ⟨?_, rfl⟩
    rw [← HR.out]
    have h1 : ((⟨#[40]⟩ : ByteArray) ++ ⟨s.toArray⟩) = ⟨([40] ++ s).toArray⟩ := ByteArray.mk_append_mk [40] s
    have h2 : ((⟨([40] ++ s).toArray⟩ : ByteArray) ++ ⟨#[41]⟩) = ⟨([40] ++ s ++ [41]).toArray⟩ := ByteArray.mk_append_mk _ [41]
    exact ret_str ((congrArg (· ++ _) h1).trans h2)
  · rw [if_neg h] at hr
    have gh : ¬ (m : Int) < (L : Int) := by omega
    subst hr
    go_enter Tryz.func45, Tryz.ntmps45
    go_wp2_with fail
    go_ret
    exact ⟨rfl, rfl⟩
end Go.Proofs.YtfihdbnecepmfaaGreatDoor
