/-
  tree.Parse of a text that is known: the program's rows, or the error.
-/
import Derived.Test.YtfihdbnecepmfaaGreatDoorTreeParseG

namespace Go.Proofs.YtfihdbnecepmfaaGreatDoor
open Go.RowKit
open PTree (R Ex Tr Rl Row)

theorem tparse_ok {s : ByteArray} {rs : List Rl} {t : List PLex.Tok} (h : PTree.parse s.data.toList = some (.ok t rs)) (hs : s.size ≤ 4000) (w : World) :
    Calls Tryz.prog 10 #[.string s] w fun e w' => ∃ A ca B cb, e = .returned (.tuple #[.agg #[.slice A rs.length ca, .slice B (PTree.sizeOf rs) cb], .int .i64 0, .int .i64 0]) ∧ SlX rowR w' A rs.length (PTree.rowsOf 0 rs) ∧ SlX exR w' B (PTree.sizeOf rs) (PTree.exprsOf 0 rs) ∧ Below w.heap.size w w' := by
  refine (tparse_any s w hs).mono fun e w' k => ?_
  rw [h] at k
  obtain ⟨hb, A, ca, B, cb, he, _, _, h1, h2⟩ := k
  exact ⟨A, ca, B, cb, he, h1, h2, hb⟩
theorem tparse_cap {s : ByteArray} {rs : List Rl} {t : List PLex.Tok} (h : PTree.parse s.data.toList = some (.ok t rs)) (hs : s.size ≤ 4000) (w : World) :
    Calls Tryz.prog 10 #[.string s] w fun e w' => ∃ A ca B cb, e = .returned (.tuple #[.agg #[.slice A rs.length ca, .slice B (PTree.sizeOf rs) cb], .int .i64 0, .int .i64 0]) ∧ (A = none → ca = 0) ∧ (B = none → cb = 0) ∧ rs.length ≤ ca ∧ PTree.sizeOf rs ≤ cb ∧ SlX rowR w' A rs.length (PTree.rowsOf 0 rs) ∧ SlX exR w' B (PTree.sizeOf rs) (PTree.exprsOf 0 rs) ∧ Below w.heap.size w w' := by
  refine (tparse_any s w hs).mono fun e w' k => ?_
  rw [h] at k
  obtain ⟨hb, A, ca, B, cb, he, z1, ⟨z2, z3, z4⟩, h1, h2⟩ := k
  exact ⟨A, ca, B, cb, he, z1, z2, z3, z4, h1, h2, hb⟩
theorem tparse_bad {s : ByteArray} {k q : Nat} (h : PTree.parse s.data.toList = some (.bad k q)) (hs : s.size ≤ 4000) (w : World) :
    Calls Tryz.prog 10 #[.string s] w fun e w' => e = .returned (.tuple #[.agg #[.slice none 0 0, .slice none 0 0], .int .i64 (q : Nat), .int .i64 (k : Nat)]) ∧ Below w.heap.size w w' := by
  refine (tparse_any s w hs).mono fun e w' k => ?_
  rw [h] at k
  exact ⟨k.2.1, k.1⟩
theorem slx_cell {α : Type} {R : Rec α} {w : World} {A : Option Addr} {n : Nat} {l : List α} (h : SlX R w A n l) {i : Nat} (hi : i < n) : ∃ b off, A = some ⟨b, off, none⟩ ∧ ∀ j v, (R.C (l[i]'(by rw [h.1]; exact hi)))[j]? = some v → w.cell? ⟨b, off + i * R.k + j, none⟩ = some v := by
  obtain ⟨b, off, e, hc⟩ := h.at hi
  exact ⟨b, off, e, fun j v hv => hc i (by rw [h.1]; exact hi) j v hv⟩
end Go.Proofs.YtfihdbnecepmfaaGreatDoor
