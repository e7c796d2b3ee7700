/-
  Rules of one word each: they fit, and what the landed parser answers of their text.
-/
import Derived.Test.YtdkcdgjpcojdfaaGreatDoorOrdItemsG
import Derived.Test.YtdkcdgjpcojdfaaGreatDoorLaw11AwakeG

set_option linter.unusedVariables false
namespace Go.Proofs.YtdkcdgjpcojdfaaGreatDoor
open Go.RowKit
open PTree (R Ex Tr Rl Row)
open PCheck (Xp Bd)

theorem fit_items {sep : List UInt8} (hs : sep = [] ∨ sep = [10]) {L : List PTree.It} (h : ∀ x ∈ L, x.Ok) (hl : L.length ≤ 40) : Fit (PTree.txs sep L) (L.map PTree.It.rl) := by
  have hp := PTree.parse_items hs h (by omega)
  have g := PShow.got hp
  have hln := PTree.txs_len (sep := sep) (by rcases hs with rfl | rfl <;> simp) L h
  refine ⟨⟨_, hp⟩, by omega, by rw [PTree.items_size h]; omega, g.few, by have := g.len; omega⟩
theorem parse_ans {sep : List UInt8} (hs : sep = [] ∨ sep = [10]) {L : List PTree.It} (h : ∀ x ∈ L, x.Ok) (hl : L.length ≤ 40) (w : World) {m : Nat} (hm : L.length = m) : Calls Tryz.prog 10 #[.string ⟨(PTree.txs sep L).toArray⟩] w (CapAns (L.map PTree.It.rl) m m w) := by
  have hp := PTree.parse_items hs h (by omega)
  have hln := PTree.txs_len (sep := sep) (by rcases hs with rfl | rfl <;> simp) L h
  refine tparse_fit (t := []) (by simpa using hp) ?_ w (by rw [List.length_map]; exact hm) (by rw [PTree.items_size h]; exact hm)
  show (PTree.txs sep L).toArray.size ≤ 4000
  rw [List.size_toArray]; omega
end Go.Proofs.YtdkcdgjpcojdfaaGreatDoor
