/-
  What a row's proof of this seat uses where a slice of integers comes in.
-/
import Derived.Test.YtbnnmakmgleikaaBase
import Derived.Test.YtbnnmakmgleikaaRows
import Derived.WalkKit
import Derived.ProofKit
import Derived.OpenShut
import Derived.ChangeOld
import Derived.Below
namespace Go.Proofs.Ytbnnmakmgleikaa
open Go.ChangeShapes Go.WideShapes Go.ChangeAt Go.RowKit

theorem laidOut : laidOutB Try.prog = true := by kernel_rfl

/-- A slice of integers that came in: it is nil; or it leads to a row of 'cap' cells, the numbers 'zs' (the first 'len' are its elements). -/
def IsRow (k : IntKind) (w : World) (a : Option Addr) (len cap : Nat) (zs : List Int) : Prop :=
  (a = none ∧ len = 0 ∧ cap = 0 ∧ zs = []) ∨
  ∃ x, a = some x ∧ len ≤ cap ∧ cap ≤ maxLen ∧ zs.length = cap ∧ (∀ i, i < zs.length → w.cell? (x.add i) = some (.int k (zs.getD i 0))) ∧ ∀ n ∈ zs, (Lit.int k n).wf = true

/-- A slice of integers of a kind that reads as a list. -/
def SlK (k : IntKind) (w : World) (a : Option Addr) (len : Nat) (l : List Int) : Prop :=
  l.length = len ∧ (∀ i, i < len → (Lit.int k (l.getD i 0)).wf = true) ∧ len ≤ 9223372036854775807 ∧
  (len = 0 ∨ ∃ b off, a = some ⟨b, off, none⟩ ∧ ∀ i, i < len → w.cell? ⟨b, off + i, none⟩ = some (.int k (l.getD i 0)))
theorem slk_of_row {k : IntKind} {w : World} {a : Option Addr} {len cap : Nat} {zs : List Int} (h : IsRow k w a len cap zs) : SlK k w a len (zs.take len) := by
  rcases h with ⟨rfl, rfl, rfl, rfl⟩ | ⟨x, rfl, hl, hm, hz, hcell, hwz⟩
  · exact ⟨rfl, fun i hi => by omega, by omega, .inl rfl⟩
  · unfold maxLen at hm
    have hg : ∀ i, i < len → (zs.take len).getD i 0 = zs.getD i 0 := fun i hi => by
      simp [List.getD, hi]
    refine ⟨by simp; omega, fun i hi => ?_, by omega, ?_⟩
    · rw [hg i hi]
      have hi' : i < zs.length := by omega
      have : zs.getD i 0 ∈ zs := by
        simp [List.getD, hi']
      exact hwz _ this
    · by_cases h0 : len = 0
      · exact .inl h0
      · obtain ⟨b, off, spot⟩ := x
        have hs : spot = none := by
          have hc := hcell 0 (by omega)
          simpa [Addr.add] using World.cell?_spot hc
        subst hs
        refine .inr ⟨b, off, rfl, fun i hi => ?_⟩
        rw [hg i hi]
        have hc := hcell i (by omega)
        by_cases hi0 : i = 0
        · subst hi0; simpa [Addr.add] using hc
        · simpa [Addr.add, hi0] using hc
theorem nil_of_row {k : IntKind} {w : World} {a : Option Addr} {len cap : Nat} {zs : List Int} (h : IsRow k w a len cap zs) : a = none → cap = 0 := by
  intro e
  rcases h with ⟨_, _, rfl, _⟩ | ⟨x, rfl, _⟩
  · rfl
  · cases e
theorem sl_of_row {w : World} {a : Option Addr} {len cap : Nat} {zs : List Int} (h : IsRow .i64 w a len cap zs) : Sl w a len (zs.take len) := by
  obtain ⟨h1, h2, h3, h4⟩ := slk_of_row h
  exact ⟨h1, fun i hi => i64_bounds (h2 i hi), h3, h4⟩
end Go.Proofs.Ytbnnmakmgleikaa
