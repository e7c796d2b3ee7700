/-
  The digits of a number below 100, as the statements of stage 11 write them.
-/
import Derived.Test.YtdkcdgjpcojdfaaGreatDoorLaw11AwakeG
import Derived.Test.YtdkcdgjpcojdfaaGreatDoorOrdItemsG
import Derived.Laws.IdiomStrings

set_option linter.unusedVariables false
namespace Go.Proofs.YtdkcdgjpcojdfaaGreatDoor
open Go.RowKit

/-- A text, and new blocks only. -/
def TxtAns (l : List UInt8) (w : World) (e : Ending) (w' : World) : Prop := e = .returned (.string ⟨l.toArray⟩) ∧ Below w.heap.size w w'
theorem conv_one (W : World) {m : Nat} (hm : m ≤ 9) : (convert 105 9 (.slice (some ⟨W.heap.size, 0, none⟩) 1 1)).run Tryz.prog (W.alloc (.cells #[.int .u8 (48 + (m : Int))] 5)) = .ok (.string ⟨[UInt8.ofNat (48 + m)].toArray⟩) (W.alloc (.cells #[.int .u8 (48 + (m : Int))] 5)) := by
  refine run_convert_bytes_back _ 105 9 5 ⟨W.heap.size, 0, none⟩ 1 [UInt8.ofNat (48 + m)] Tryz.underlying105 Tryz.underlying5 Tryz.underlying9 fun j hj => ?_
  have h0 : j = 0 := by simp at hj; omega
  subst h0
  simp only [Addr.add, if_true]
  rw [World.cell?_alloc_new]
  have : (UInt8.ofNat (48 + m)).toNat = 48 + m := by rw [UInt8.toNat_ofNat']; omega
  simp only [List.getElem_cons_zero]
  rw [this]
  simp
theorem conv_two (W : World) {a b : Nat} (ha : a ≤ 9) (hb : b ≤ 9) : (convert 105 9 (.slice (some ⟨W.heap.size, 0, none⟩) 2 2)).run Tryz.prog (W.alloc (.cells #[.int .u8 (48 + (a : Int)), .int .u8 (48 + (b : Int))] 5)) = .ok (.string ⟨[UInt8.ofNat (48 + a), UInt8.ofNat (48 + b)].toArray⟩) (W.alloc (.cells #[.int .u8 (48 + (a : Int)), .int .u8 (48 + (b : Int))] 5)) := by
  refine run_convert_bytes_back _ 105 9 5 ⟨W.heap.size, 0, none⟩ 2 [UInt8.ofNat (48 + a), UInt8.ofNat (48 + b)] Tryz.underlying105 Tryz.underlying5 Tryz.underlying9 fun j hj => ?_
  have e1 : (UInt8.ofNat (48 + a)).toNat = 48 + a := by rw [UInt8.toNat_ofNat']; omega
  have e2 : (UInt8.ofNat (48 + b)).toNat = 48 + b := by rw [UInt8.toNat_ofNat']; omega
  have h0 : j = 0 ∨ j = 1 := by simp at hj; omega
  rcases h0 with rfl | rfl
  · simp only [Addr.add, if_true]
    rw [World.cell?_alloc_new]
    simp only [List.getElem_cons_zero]
    rw [e1]; simp
  · have : (Addr.add ⟨W.heap.size, 0, none⟩ 1 : Addr) = ⟨W.heap.size, 1, none⟩ := rfl
    rw [this, World.cell?_alloc_new]
    simp only [List.getElem_cons_succ, List.getElem_cons_zero]
    rw [e2]; simp
set_option maxHeartbeats 1600000 in
theorem kdigits_any (w : World) {i : Nat} (hi : i < 100) : Calls Tryz.prog 20 #[.int .i64 (i : Nat)] w (TxtAns (PTree.digI i) w) := by
  obtain ⟨Q, hQ⟩ : ∃ Q, TxtAns (PTree.digI i) w = Q := ⟨_, rfl⟩
  rw [hQ]
  have FIN : Hid (∀ w' : World, Below w.heap.size w w' → Q (.returned (.string ⟨(PTree.digI i).toArray⟩)) w') := Lib.hid (fun w' a => by rw [← hQ]; exact ⟨rfl, a⟩)
  clear hQ
  by_cases h : i < 10
  · have g : (i : Int) < 10 := by omega
    have d1 := conv_one w (m := i) (by omega)
    have BB := Lib.hid ((Below.refl w.heap.size w).alloc (Nat.le_refl _) (.cells #[.int .u8 (48 + (i : Int))] 5))
    have HS : Hid (({ data := #[48 + UInt8.ofNat i] } : ByteArray) = ⟨(PTree.digI i).toArray⟩) := Lib.hid (by unfold PTree.digI; rw [if_pos h])
    go_enter Tryz.func20, Tryz.ntmps20
    go_wp2_with fail
    rw [HS.out]
    exact FIN.out _ BB.out
  · obtain ⟨c1, hc1⟩ : ∃ c, i % 10 = c := ⟨_, rfl⟩
    obtain ⟨c2, hc2⟩ : ∃ c, i / 10 % 10 = c := ⟨_, rfl⟩
    have g : ¬ (i : Int) < 10 := by omega
    have e1 : ((i : Int) % 10) = (c1 : Int) := by omega
    have e2 : ((i : Int) / 10 % 10) = (c2 : Int) := by omega
    have d1 := conv_two w (a := c2) (b := c1) (by omega) (by omega)
    have BB := Lib.hid ((Below.refl w.heap.size w).alloc (Nat.le_refl _) (.cells #[.int .u8 (48 + (c2 : Int)), .int .u8 (48 + (c1 : Int))] 5))
    have HS : Hid (({ data := #[48 + UInt8.ofNat c2, 48 + UInt8.ofNat c1] } : ByteArray) = ⟨(PTree.digI i).toArray⟩) := Lib.hid (by unfold PTree.digI; rw [if_neg h, hc1, hc2])
    have l1 : c1 ≤ 9 := by omega
    have l2 : c2 ≤ 9 := by omega
    clear hc1 hc2
    go_enter Tryz.func20, Tryz.ntmps20
    go_wp2_with fail
    rw [HS.out]
    exact FIN.out _ BB.out
end Go.Proofs.YtdkcdgjpcojdfaaGreatDoor
