/-
  What the reference of layer 8 answers: whether a text is one of these; words that are no names; the signs of a level.
-/
import Derived.Test.YtjcfgdldmgmiaaaDoorTreeRules
import Derived.Test.YtjcfgdldmgmiaaaDoorStrRow
import Derived.Deep.QuietTactic
import Derived.BigQuiet
import Derived.Handy
namespace Go.Proofs.YtjcfgdldmgmiaaaDoor
open Go.RowKit

set_option maxHeartbeats 1600000 in
theorem r8one_any {w : World} {A : Option Addr} {c : Nat} {l : List (List UInt8)} {u : ByteArray} (h : SlX strR w A l.length l) (hn : l.length ≤ 100000) :
    Calls Tryd.prog 20 #[.string u, .slice A l.length c] w fun e w' => e = .returned (.bool (decide (u.data.toList ∈ l))) ∧ w = w' := by
  have H := Lib.hid h
  clear h
  go_enter Tryd.func20, Tryd.ntmps20
  go_wp2_with fail
  go_loop [5] (fun i => ∃ (t : Nat), t ≤ l.length ∧ i = .int .i64 t ∧ Hid (∀ j (h : j < l.length), j < t → l[j] ≠ u.data.toList)) (fun i => l.length - (intOf i).toNat)
  case atStart => exact ⟨0, Nat.zero_le _, rfl, (show Hid _ from fun j _ h => absurd h (Nat.not_lt_zero _))⟩
  case round =>
    obtain ⟨t, ht, rfl, HT⟩ := hrel
    by_cases hlt : t < l.length
    · obtain ⟨b, off, rfl, hc⟩ := H.out.at hlt
      have c0 := hc t hlt 0 _ rfl
      have hk : strR.k = 1 := rfl
      rw [hk, Nat.mul_one, Nat.add_zero] at c0
      have hsz := World.block_lt_of_cell? w _ c0
      obtain ⟨x, hx⟩ : ∃ x, l[t] = x := ⟨_, rfl⟩
      rw [hx] at c0
      clear hc
      by_cases e : x = u.data.toList
      · have he := str_eq e
        have HR : Hid (decide (u.data.toList ∈ l) = true) := Lib.hid (decide_eq_true (by rw [← e, ← hx]; exact List.getElem_mem hlt))
        clear e hx
        go_wp2_with fail
        go_ret
        exact ⟨by rw [HR.out]; rfl, rfl⟩
      · have he := str_ne e
        have HT2 : Hid (∀ j (h : j < l.length), j < t + 1 → l[j] ≠ u.data.toList) := Lib.hid (fun j h1 h2 => by
          by_cases ej : j = t
          · subst ej; rw [hx]; exact e
          · exact HT.out j h1 (by omega))
        clear e hx
        go_wp2_with fail
        exact ⟨⟨t + 1, by omega, rfl, HT2⟩, by simp [intOf]; omega⟩
    · obtain rfl : t = l.length := by omega
      have HR : Hid (decide (u.data.toList ∈ l) = false) := Lib.hid (decide_eq_false (fun k => by
        obtain ⟨j, hj, e⟩ := List.getElem_of_mem k
        exact HT.out j hj hj e))
      go_wp2_with fail
      go_ret
      exact ⟨by rw [HR.out]; rfl, rfl⟩
set_option maxHeartbeats 1600000 in
theorem r8taken_any (u : ByteArray) (w : World) : Calls Tryd.prog 16 #[.string u] w fun e w' => e = .returned (.bool (decide (u.data.toList ∈ PTree.takenL))) ∧ Below w.heap.size w w' := by
  have H := Lib.hid (fun w => r8one_any (u := u) (c := 9) (strR_new w 9 PTree.takenL) (by decide))
  go_enter Tryd.func16, Tryd.ntmps16
  go_wp2_with fail
  refine (H.out _).mono ?_
  rintro _ _ ⟨rfl, rfl⟩
  go_wp2_with fail
  go_ret
  exact ⟨rfl, (Below.refl _ _).alloc (Nat.le_refl _) _⟩
set_option maxHeartbeats 1600000 in
theorem r8level_any (n : Nat) (w : World) (hn : n ≤ 2) : Calls Tryd.prog 54 #[.int .i64 n] w fun e w' => ∃ A c, e = .returned (.slice A (PTree.level n).length c) ∧ SlX strR w' A (PTree.level n).length (PTree.level n) ∧ Below w.heap.size w w' := by
  have : n = 0 ∨ n = 1 ∨ n = 2 := by omega
  rcases this with rfl | rfl | rfl
  · go_enter Tryd.func54, Tryd.ntmps54
    go_wp2_with fail
    go_ret
    exact ⟨_, _, rfl, strR_new w 9 (PTree.level 0), (Below.refl _ _).alloc (Nat.le_refl _) _⟩
  · go_enter Tryd.func54, Tryd.ntmps54
    go_wp2_with fail
    go_ret
    exact ⟨_, _, rfl, strR_new w 9 (PTree.level 1), (Below.refl _ _).alloc (Nat.le_refl _) _⟩
  · go_enter Tryd.func54, Tryd.ntmps54
    go_wp2_with fail
    go_ret
    exact ⟨_, _, rfl, strR_new w 9 (PTree.level 2), (Below.refl _ _).alloc (Nat.le_refl _) _⟩
end Go.Proofs.YtjcfgdldmgmiaaaDoor
