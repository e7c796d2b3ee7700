/-
  A slice of integers that came in reads as a list.
-/
import Derived.Test.YtplbebfpahgmoaaDoorCardKit
import Derived.Test.YtplbebfpahgmoaaDoorMoneySum
namespace Go.Proofs.YtplbebfpahgmoaaDoor
open Go.RowKit

theorem sl_of_row {w : World} {a : Option Addr} {len cap : Nat} {zs : List Int} (h : IsRow .i64 w a len cap zs) : Sl w a len (zs.take len) := by
  rcases h with ⟨rfl, rfl, rfl, rfl⟩ | ⟨x, rfl, hl, hm, hz, hcell, hwz⟩
  · exact ⟨rfl, fun i hi => by omega, by omega, .inl rfl⟩
  · unfold maxLen at hm
    have hg : ∀ i, i < len → (zs.take len).getD i 0 = zs.getD i 0 := fun i hi => by
      simp [List.getD, hi]
    refine ⟨by simp; omega, fun i hi => ?_, by omega, ?_⟩
    · rw [hg i hi]
      have hi' : i < zs.length := by omega
      have : zs.getD i 0 ∈ zs := by
        simp [List.getD, hi']
      exact i64_bounds (hwz _ this)
    · by_cases h0 : len = 0
      · exact .inl h0
      · obtain ⟨b, off, spot⟩ := x
        have hs : spot = none := by
          have hc := hcell 0 (by omega)
          simpa [Addr.add] using World.cell?_spot hc
        subst hs
        refine .inr ⟨b, off, rfl, fun i hi => ?_⟩
        rw [hg i hi]
        have hc := hcell i (by omega)
        by_cases hi0 : i = 0
        · subst hi0; simpa [Addr.add] using hc
        · simpa [Addr.add, hi0] using hc
end Go.Proofs.YtplbebfpahgmoaaDoor
