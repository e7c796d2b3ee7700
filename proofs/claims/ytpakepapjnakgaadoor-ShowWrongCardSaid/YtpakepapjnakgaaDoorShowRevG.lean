/-
  Pieces in a block of the call's own, of which they may leave a rest free: what they hold, through stores.
-/
import Derived.Test.YtpakepapjnakgaaDoorSP
import Derived.Test.YtpakepapjnakgaaDoorRR

set_option linter.unusedVariables false
namespace Go.Proofs.YtpakepapjnakgaaDoor
open Go.RowKit
open PShow (Pc)
open Rev (Rv)

/-- Block g holds these pieces, and may be written to. -/
def PcRow (w : World) (g : Nat) (L : List Pc) : Prop := ∀ i x, L[i]? = some x → w.cell? ⟨g, i * 2, none⟩ = some (.string ⟨x.1.toArray⟩) ∧ w.cell? ⟨g, i * 2 + 1, none⟩ = some (.int .i64 x.2) ∧ w.frozen? ⟨g, i * 2, none⟩ = false ∧ w.frozen? ⟨g, i * 2 + 1, none⟩ = false
theorem PcRow.put {w : World} {g : Nat} {L : List Pc} (h : PcRow w g L) {i : Nat} (hi : i < L.length) (x : Pc) : PcRow ((w.setCell ⟨g, i * 2, none⟩ (.string ⟨x.1.toArray⟩)).setCell ⟨g, i * 2 + 1, none⟩ (.int .i64 x.2)) g (L.set i x) := by
  intro j y hy
  obtain ⟨a0, a1, -, -⟩ := h i L[i] (List.getElem?_eq_getElem hi)
  have hj : j < L.length := by have := (List.getElem?_eq_some_iff.1 hy).1; rwa [List.length_set] at this
  obtain ⟨-, -, f0, f1⟩ := h j L[j] (List.getElem?_eq_getElem hj)
  rw [box_frozen_set, box_frozen_set, box_frozen_set, box_frozen_set]
  refine ⟨?_, ?_, f0, f1⟩
  · rw [World.cell?_setCell_other _ _ _ _ (by intro c; simp only [Addr.mk.injEq] at c; omega)]
    by_cases e : j = i
    · subst e
      rw [List.getElem?_set_self hi] at hy
      cases hy
      exact World.cell?_setCell_same _ _ _ a0
    · rw [List.getElem?_set_ne (Ne.symm e)] at hy
      rw [World.cell?_setCell_other _ _ _ _ (by intro c; simp only [Addr.mk.injEq] at c; omega)]
      exact (h j y hy).1
  · by_cases e : j = i
    · subst e
      rw [List.getElem?_set_self hi] at hy
      cases hy
      exact World.cell?_setCell_same _ _ _ ((World.cell?_setCell_other _ _ _ _ (by intro c; simp only [Addr.mk.injEq] at c; omega)).trans a1)
    · rw [List.getElem?_set_ne (Ne.symm e)] at hy
      rw [World.cell?_setCell_other _ _ _ _ (by intro c; simp only [Addr.mk.injEq] at c; omega), World.cell?_setCell_other _ _ _ _ (by intro c; simp only [Addr.mk.injEq] at c; omega)]
      exact (h j y hy).2.1
/-- A row of the call's own of pieces, of which there is one at least. -/
theorem pcRow_own {w : World} {base n : Nat} {v : Value} {L : List Pc} (h : w.ownsRow base 92 2 v n (pcR.cells L)) (hl : L.length = n) (hn : n ≠ 0) : ∃ g c, v = .slice (some ⟨g, 0, none⟩) n c ∧ base ≤ g ∧ n ≤ c ∧ PcRow w g L := by
  rcases h.2 with ⟨rfl, rfl⟩ | ⟨g, cap, cur, rfl, hg, hh, h1, h2, _⟩
  · exact absurd rfl hn
  · refine ⟨g, cap, rfl, hg, h1, fun i x hx => ?_⟩
    obtain ⟨hi, rfl⟩ := List.getElem?_eq_some_iff.1 hx
    have c0 := h.cells (g := g) rfl _ _ (pcR.cells_get L i hi 0 _ rfl)
    have c1 := h.cells (g := g) rfl _ _ (pcR.cells_get L i hi 1 _ rfl)
    rw [addr_add] at c0 c1
    exact ⟨c0, c1, Lib.frozen_of_heap hh _, Lib.frozen_of_heap hh _⟩
/-- .. as a slice. -/
theorem PcRow.sl {w : World} {g : Nat} {L : List Pc} (h : PcRow w g L) : SlX pcR w (some ⟨g, 0, none⟩) L.length L :=
  ⟨rfl, .inr ⟨g, 0, rfl, fun i hi j v e => by
    obtain ⟨c0, c1, -, -⟩ := h i L[i] (List.getElem?_eq_getElem hi)
    rw [Nat.zero_add]
    match j, e with
    | 0, e => cases e; exact c0
    | 1, e => cases e; exact c1⟩⟩
end Go.Proofs.YtpakepapjnakgaaDoor
