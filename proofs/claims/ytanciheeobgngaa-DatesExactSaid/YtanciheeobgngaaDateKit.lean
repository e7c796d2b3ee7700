/-
  Three ints in a block of their own: what its cells hold, through stores and calls.
-/
import Derived.Test.YtanciheeobgngaaDateMath
import Derived.ProofKit
import Derived.OpenShut
import Derived.ChangeOld
import Derived.Below
import Derived.Deep.QuietTactic
import Derived.BigQuiet
import Derived.Deep.RegionHeld3
namespace Go.Proofs.Ytanciheeobgngaa
open Go.RowKit

/-- A number that an int can hold. -/
def I64 (x : Int) : Prop := -9223372036854775808 ≤ x ∧ x ≤ 9223372036854775807
/-- A date as a value. -/
def reD (y m d : Int) : Value := .agg #[.int .i64 y, .int .i64 m, .int .i64 d]
theorem below_drewN' {B : Nat} {a w : World} (h : Below B a w) (n : Nat) : Below B a (w.drewN n) := ⟨h.os, h.tape, h.output, h.size, h.block⟩
/-- A block that holds three ints. -/
def D3 (w : World) (H : Nat) (y m d : Int) : Prop :=
  (w.cell? ⟨H, 0, none⟩ = some (.int .i64 y) ∧ w.cell? ⟨H, 1, none⟩ = some (.int .i64 m) ∧ w.cell? ⟨H, 2, none⟩ = some (.int .i64 d)) ∧
  w.frozen? ⟨H, 0, none⟩ = false ∧ w.frozen? ⟨H, 1, none⟩ = false ∧ w.frozen? ⟨H, 2, none⟩ = false
theorem D3.lt {w : World} {H : Nat} {y m d : Int} (h : D3 w H y m d) : H < w.heap.size := World.block_lt_of_cell? w _ h.1.1
theorem D3.new (w : World) (t : TypeId) (y m d : Int) : D3 (w.alloc (.cells #[.int .i64 y, .int .i64 m, .int .i64 d] t)) w.heap.size y m d := by
  refine ⟨⟨?_, ?_, ?_⟩, ?_, ?_, ?_⟩ <;> go_simp
theorem D3.on {w w' : World} {H : Nat} {y m d : Int} (h : D3 w H y m d) (hb : Below w.heap.size w w') : D3 w' H y m d := by
  have hl := h.lt
  obtain ⟨⟨h1, h2, h3⟩, h4, h5, h6⟩ := h
  exact ⟨⟨(hb.cell (p := ⟨H, 0, none⟩) hl).trans h1, (hb.cell (p := ⟨H, 1, none⟩) hl).trans h2, (hb.cell (p := ⟨H, 2, none⟩) hl).trans h3⟩,
    (hb.frozen (p := ⟨H, 0, none⟩) hl).trans h4, (hb.frozen (p := ⟨H, 1, none⟩) hl).trans h5, (hb.frozen (p := ⟨H, 2, none⟩) hl).trans h6⟩
theorem D3.alloc {w : World} {H : Nat} {y m d : Int} (h : D3 w H y m d) (o : Obj) : D3 (w.alloc o) H y m d := h.on ((Below.refl _ _).alloc (Nat.le_refl _) o)
theorem frozen_set3 (w : World) (p q : Addr) (v : Value) : (w.setCell p v).frozen? q = w.frozen? q := by go_simp
theorem D3.far {w : World} {H : Nat} {y m d : Int} (h : D3 w H y m d) {p : Addr} (hp : p.block ≠ H) (v : Value) : D3 (w.setCell p v) H y m d := by
  obtain ⟨⟨h1, h2, h3⟩, h4, h5, h6⟩ := h
  exact ⟨⟨by rw [World.cell?_setCell_far _ _ _ _ hp]; exact h1, by rw [World.cell?_setCell_far _ _ _ _ hp]; exact h2, by rw [World.cell?_setCell_far _ _ _ _ hp]; exact h3⟩, by rw [frozen_set3]; exact h4, by rw [frozen_set3]; exact h5, by rw [frozen_set3]; exact h6⟩
theorem D3.set0 {w : World} {H : Nat} {y m d : Int} (h : D3 w H y m d) (v : Int) : D3 (w.setCell ⟨H, 0, none⟩ (.int .i64 v)) H v m d := by
  obtain ⟨⟨h1, h2, h3⟩, h4, h5, h6⟩ := h
  exact ⟨⟨World.cell?_setCell_same _ _ _ h1, by rw [World.cell?_setCell_other _ _ _ _ (by simp), h2], by rw [World.cell?_setCell_other _ _ _ _ (by simp), h3]⟩, by rw [frozen_set3]; exact h4, by rw [frozen_set3]; exact h5, by rw [frozen_set3]; exact h6⟩
theorem D3.set1 {w : World} {H : Nat} {y m d : Int} (h : D3 w H y m d) (v : Int) : D3 (w.setCell ⟨H, 1, none⟩ (.int .i64 v)) H y v d := by
  obtain ⟨⟨h1, h2, h3⟩, h4, h5, h6⟩ := h
  exact ⟨⟨by rw [World.cell?_setCell_other _ _ _ _ (by simp), h1], World.cell?_setCell_same _ _ _ h2, by rw [World.cell?_setCell_other _ _ _ _ (by simp), h3]⟩, by rw [frozen_set3]; exact h4, by rw [frozen_set3]; exact h5, by rw [frozen_set3]; exact h6⟩
theorem D3.set2 {w : World} {H : Nat} {y m d : Int} (h : D3 w H y m d) (v : Int) : D3 (w.setCell ⟨H, 2, none⟩ (.int .i64 v)) H y m v := by
  obtain ⟨⟨h1, h2, h3⟩, h4, h5, h6⟩ := h
  exact ⟨⟨by rw [World.cell?_setCell_other _ _ _ _ (by simp), h1], by rw [World.cell?_setCell_other _ _ _ _ (by simp), h2], World.cell?_setCell_same _ _ _ h3⟩, by rw [frozen_set3]; exact h4, by rw [frozen_set3]; exact h5, by rw [frozen_set3]; exact h6⟩
theorem keep2 {w w' : World} {p q : Addr} {u v : Value} (hb : Below w.heap.size w w') (h : w.cell? p = some u ∧ w.cell? q = some v) : w'.cell? p = some u ∧ w'.cell? q = some v :=
  ⟨(hb.cell (World.block_lt_of_cell? w _ h.1)).trans h.1, (hb.cell (World.block_lt_of_cell? w _ h.2)).trans h.2⟩
theorem keep3 {w w' : World} {p q r : Addr} {u v x : Value} (hb : Below w.heap.size w w') (h : w.cell? p = some u ∧ w.cell? q = some v ∧ w.cell? r = some x) : w'.cell? p = some u ∧ w'.cell? q = some v ∧ w'.cell? r = some x :=
  ⟨(hb.cell (World.block_lt_of_cell? w _ h.1)).trans h.1, keep2 hb h.2⟩
end Go.Proofs.Ytanciheeobgngaa
