/-
  Orders in cells: slices of structs of four ints.
-/
import Derived.Test.YtmmgejgmlhhfdaaGaMath
import Derived.Test.YtmmgejgmlhhfdaaRecKit
namespace Go.Proofs.Ytmmgejgmlhhfdaa
open Go.RowKit

def ordR : Rec PGa.Ord where
  C o := [.int .i64 o.c, .int .i64 o.p, .int .i64 o.cl, .int .i64 o.ba]
  k := 4
  pos := by decide
  len _ := rfl
  one o u h := by simp at h; rcases h with rfl | rfl | rfl | rfl <;> rfl
/-- A slice of orders that reads as a list. -/
def SlO (w : World) (A : Option Addr) (n : Nat) (l : List PGa.Ord) : Prop := SlX ordR w A n l ∧ (∀ i (h : i < l.length), PGa.In l[i]) ∧ n ≤ 9223372036854775807
theorem SlO.on {w w' : World} {A : Option Addr} {n : Nat} {l : List PGa.Ord} (h : SlO w A n l) (hb : Below w.heap.size w w') : SlO w' A n l := ⟨h.1.on hb, h.2⟩
theorem SlO.len {w : World} {A : Option Addr} {n : Nat} {l : List PGa.Ord} (h : SlO w A n l) : l.length = n := h.1.1
theorem SlO.cells {w : World} {A : Option Addr} {n : Nat} {l : List PGa.Ord} (h : SlO w A n l) {i : Nat} (hi : i < n) :
    ∃ b off, A = some ⟨b, off, none⟩ ∧ ∀ k (hk : k < l.length), w.cell? ⟨b, off + k * 4, none⟩ = some (.int .i64 l[k].c) ∧ w.cell? ⟨b, off + k * 4 + 1, none⟩ = some (.int .i64 l[k].p) ∧ w.cell? ⟨b, off + k * 4 + 2, none⟩ = some (.int .i64 l[k].cl) ∧ w.cell? ⟨b, off + k * 4 + 3, none⟩ = some (.int .i64 l[k].ba) := by
  obtain ⟨b, off, e, hc⟩ := h.1.at hi
  exact ⟨b, off, e, fun k hk => ⟨hc k hk 0 _ rfl, hc k hk 1 _ rfl, hc k hk 2 _ rfl, hc k hk 3 _ rfl⟩⟩
end Go.Proofs.Ytmmgejgmlhhfdaa
