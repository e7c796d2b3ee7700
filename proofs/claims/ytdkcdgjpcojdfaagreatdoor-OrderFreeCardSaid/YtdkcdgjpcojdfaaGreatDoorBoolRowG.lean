/-
  A slice of flags that came in reads as a list of them.
-/
import Derived.Test.YtdkcdgjpcojdfaaGreatDoorKT
import Derived.ChangeArms

namespace Go.Proofs.YtdkcdgjpcojdfaaGreatDoor
open Go.ChangeShapes Go.WideShapes Go.ChangeAt Go.RowKit

def boolR : Rec Bool := ⟨fun z => [.bool z], 1, by decide, fun _ => rfl, fun x u hu => by simp at hu; subst hu; rfl⟩
theorem bool_at {w : World} {A : Option Addr} {n : Nat} {L : List Bool} (h : SlX boolR w A n L) {q : Nat} (hq : q < n) : ∃ b o x, A = some ⟨b, o, none⟩ ∧ L.getD q false = x ∧ w.cell? ⟨b, o + q, none⟩ = some (.bool x) := by
  obtain ⟨b, o, rfl, hc⟩ := h.at hq
  have hl : q < L.length := by rw [h.1]; exact hq
  have := hc q hl 0 _ rfl
  have hk : boolR.k = 1 := rfl
  rw [hk, Nat.mul_one, Nat.add_zero] at this
  exact ⟨b, o, L[q], rfl, by simp [List.getD, hl], this⟩
variable {H : Type} {enc : TypeId × Value → H} {w : World}
theorem cells_bool : Program.cellsOf Tryz.prog 4 = 1 := by kernel_rfl
theorem one_bool (n : Nat) (cs : List Value) (y : DataW H × List MemPlace) (h : DataW.trod enc Tryz.prog w 0 (fun _ => true) true n 4 cs = some y) (_ : cs.length = boolR.k) :
    ∃ q : Bool, True ∧ cs = boolR.C q := by
  obtain ⟨b, hc, _⟩ := DataW.trod_bool Tryz.underlying4 h
  exact ⟨b, trivial, hc⟩
theorem open_bools {A : Option Addr} {n cap : Nat} {d : DataW H} {p : List MemPlace} (h : DataW.Trod enc Tryz.prog w 0 (fun _ => true) true 56 (.slice A n cap) d p) :
    ∃ l, SlX boolR w A n l ∧ (n : Int) ≤ 9223372036854775807 := by
  obtain ⟨fuel, hf⟩ := h
  obtain ⟨A', n', cap', l, hcs, h1, h2, h3, h4, h5, _⟩ := slx_of_trod (R := boolR) Tryz.underlying56 cells_bool one_bool hf
  simp [Value.cells] at hcs
  obtain ⟨rfl, rfl, rfl⟩ := hcs
  unfold maxLen at h4
  exact ⟨l, h1, by omega⟩
end Go.Proofs.YtdkcdgjpcojdfaaGreatDoor
