/-
  A row of ints in a block of its own.
-/
import Derived.Test.YtnolbjaeilgjhaaDoorBoxKit
import Derived.WalkKit
import Derived.Lib.Hide
import Derived.OwnWalk
import Derived.Deep.OwnRows
import Derived.Deep.RegionHeld3
namespace Go.Proofs.YtnolbjaeilgjhaaDoor
open Go.RowKit

theorem make_row (L : Nat) (h : L ≤ 1000) (W : World) :
    (Instr.makeSlice 39 (.int .i64 (L : Int)) (.int .i64 (L : Int))).run Tryd.prog W = .ok (.slice (some ⟨W.heap.size, 0, none⟩) L L) (W.alloc (.cells (madeCells #[.int .i64 0] L) 3)) :=
  run_make_row' (P := Tryd.prog) 39 3 (.int .i64 0) 8 Tryd.underlying39 (by kernel_rfl) rfl .i64 .i64 L (by omega) (by omega) W

/-- A row of ints in a block of its own. -/
def Rw (w : World) (H N : Nat) (l : List Int) : Prop := l.length = N ∧ ∀ t, t < N → w.cell? ⟨H, t, none⟩ = some (.int .i64 (l.getD t 0)) ∧ w.frozen? ⟨H, t, none⟩ = false
theorem made_rw (w : World) (L : Nat) : Rw (w.alloc (.cells (madeCells #[.int .i64 0] L) 3)) w.heap.size L (List.replicate L 0) := by
  have e : madeCells #[.int .i64 0] L = (List.replicate L (Value.int .i64 0)).toArray := by
    apply Array.ext'; simp [madeCells, Nat.mod_one, List.map_const']
  rw [e]
  have h := Box.new w 3 (List.replicate L (Value.int .i64 0))
  refine ⟨List.length_replicate, fun t ht => ?_⟩
  have hv : (List.replicate L (Value.int .i64 0))[t]? = some (.int .i64 0) := by simp [ht]
  have h0 : (List.replicate L (0 : Int)).getD t 0 = 0 := by simp [List.getD, ht]
  rw [h0]
  exact ⟨h.c t hv, h.f t hv⟩
theorem Rw.on {w w' : World} {H N : Nat} {l : List Int} (h : Rw w H N l) (hb : Below w.heap.size w w') : Rw w' H N l :=
  ⟨h.1, fun t ht => ⟨(hb.cell (World.block_lt_of_cell? w _ (h.2 t ht).1)).trans (h.2 t ht).1, (hb.frozen (p := ⟨H, t, none⟩) (World.block_lt_of_cell? w _ (h.2 t ht).1)).trans (h.2 t ht).2⟩⟩
theorem frozen_set (w : World) (p q : Addr) (v : Value) : (w.setCell p v).frozen? q = w.frozen? q := by go_simp
theorem Rw.far {w : World} {H N : Nat} {l : List Int} (h : Rw w H N l) {p : Addr} (hp : p.block ≠ H) (v : Value) : Rw (w.setCell p v) H N l :=
  ⟨h.1, fun t ht => ⟨by rw [World.cell?_setCell_far _ _ _ _ hp]; exact (h.2 t ht).1, by rw [frozen_set]; exact (h.2 t ht).2⟩⟩
theorem Rw.set {w : World} {H N : Nat} {l : List Int} (h : Rw w H N l) {t : Nat} (ht : t < N) (z : Int) : Rw (w.setCell ⟨H, t, none⟩ (.int .i64 z)) H N (l.set t z) := by
  refine ⟨by rw [List.length_set]; exact h.1, fun s hs => ⟨?_, by rw [frozen_set]; exact (h.2 s hs).2⟩⟩
  by_cases e : s = t
  · subst e
    rw [World.cell?_setCell_same _ _ _ (h.2 s hs).1]
    simp [List.getD, h.1, hs]
  · rw [World.cell?_setCell_other _ _ _ _ (by intro c; simp only [Addr.mk.injEq] at c; omega), (h.2 s hs).1]
    simp only [List.getD, List.getElem?_set_ne (Ne.symm e)]
theorem set_get {l : List Int} {N t s : Nat} {z : Int} (hl : l.length = N) (ht : t < N) : (l.set t z).getD s 0 = if s = t then z else l.getD s 0 := by
  by_cases e : s = t
  · subst e; rw [if_pos rfl]; simp [List.getD, hl, ht]
  · rw [if_neg e]; simp only [List.getD, List.getElem?_set_ne (Ne.symm e)]
end Go.Proofs.YtnolbjaeilgjhaaDoor
