/-
  A slice of integers that came in reads as a list (of the cards with five listed variables).
-/
import Derived.Test.YtjcfgdldmgmiaaaDoorCardKit5
namespace Go.Proofs.YtjcfgdldmgmiaaaDoor
open Go.RowKit

/-- A slice of integers of a kind that reads as a list. -/
def SlK (k : IntKind) (w : World) (a : Option Addr) (len : Nat) (l : List Int) : Prop :=
  l.length = len ∧ (∀ i, i < len → (Lit.int k (l.getD i 0)).wf = true) ∧ len ≤ 9223372036854775807 ∧
  (len = 0 ∨ ∃ b off, a = some ⟨b, off, none⟩ ∧ ∀ i, i < len → w.cell? ⟨b, off + i, none⟩ = some (.int k (l.getD i 0)))
theorem slk_of_row {k : IntKind} {w : World} {a : Option Addr} {len cap : Nat} {zs : List Int} (h : IsRow k w a len cap zs) : SlK k w a len (zs.take len) := by
  rcases h with ⟨rfl, rfl, rfl, rfl⟩ | ⟨x, rfl, hl, hm, hz, hcell, hwz⟩
  · exact ⟨rfl, fun i hi => by omega, by omega, .inl rfl⟩
  · unfold maxLen at hm
    have hg : ∀ i, i < len → (zs.take len).getD i 0 = zs.getD i 0 := fun i hi => by
      simp [List.getD, hi]
    refine ⟨by simp; omega, fun i hi => ?_, by omega, ?_⟩
    · rw [hg i hi]
      have hi' : i < zs.length := by omega
      have : zs.getD i 0 ∈ zs := by
        simp [List.getD, hi']
      exact hwz _ this
    · by_cases h0 : len = 0
      · exact .inl h0
      · obtain ⟨b, off, spot⟩ := x
        have hs : spot = none := by
          have hc := hcell 0 (by omega)
          simpa [Addr.add] using World.cell?_spot hc
        subst hs
        refine .inr ⟨b, off, rfl, fun i hi => ?_⟩
        rw [hg i hi]
        have hc := hcell i (by omega)
        by_cases hi0 : i = 0
        · subst hi0; simpa [Addr.add] using hc
        · simpa [Addr.add, hi0] using hc
end Go.Proofs.YtjcfgdldmgmiaaaDoor
