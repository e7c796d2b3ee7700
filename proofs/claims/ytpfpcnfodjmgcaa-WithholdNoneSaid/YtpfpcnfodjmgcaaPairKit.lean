/-
  A table that came in, a slice of rows of two ints: what its cells hold; rows of the call's own.
-/
import Derived.Test.YtpfpcnfodjmgcaaBase
import Derived.Test.YtpfpcnfodjmgcaaRows
import Derived.WalkKit
import Derived.ProofKit
import Derived.OpenShut
import Derived.ChangeOld
import Derived.Below
import Derived.Deep.SlicePairs
namespace Go.Proofs.Ytpfpcnfodjmgcaa
open Go.ChangeShapes Go.WideShapes Go.ChangeAt Go.RowKit

/-- A slice of pairs of ints that reads as two lists. -/
def SlP (w : World) (A : Option Addr) (n : Nat) (a r : Nat → Int) : Prop :=
  (∀ i, i < n → (-9223372036854775808 ≤ a i ∧ a i ≤ 9223372036854775807) ∧ -9223372036854775808 ≤ r i ∧ r i ≤ 9223372036854775807) ∧ n ≤ 9223372036854775807 ∧
  (n = 0 ∨ ∃ b off, A = some ⟨b, off, none⟩ ∧ ∀ i, i < n → w.cell? ⟨b, off + i * 2, none⟩ = some (.int .i64 (a i)) ∧ w.cell? ⟨b, off + i * 2 + 1, none⟩ = some (.int .i64 (r i)))
theorem SlP.on {w w' : World} {A : Option Addr} {n : Nat} {a r : Nat → Int} (h : SlP w A n a r) (hb : Below w.heap.size w w') : SlP w' A n a r := by
  obtain ⟨h1, h2, h3⟩ := h
  refine ⟨h1, h2, ?_⟩
  rcases h3 with h3 | ⟨b, off, h4, h5⟩
  · exact .inl h3
  · exact .inr ⟨b, off, h4, fun i hi => ⟨(hb.cell (World.block_lt_of_cell? w _ (h5 i hi).1)).trans (h5 i hi).1, (hb.cell (World.block_lt_of_cell? w _ (h5 i hi).2)).trans (h5 i hi).2⟩⟩

theorem slp_of_trod {H : Type} {enc : TypeId × Value → H} {w : World} {A : Option Addr} {n cap : Nat} {d : DataW H} {p : List MemPlace} (h : DataW.Trod enc Try.prog w 0 (fun _ => true) true 22 (.slice A n cap) d p) :
    ∃ a r, SlP w A n a r ∧ (A = none → cap = 0) ∧ n ≤ cap := by
  obtain ⟨fuel, hf⟩ := h
  rcases Go.Deep.open_slice_pairs Try.underlying22 Try.underlying54 (by kernel_rfl) rfl rfl (by kernel_rfl) (by kernel_rfl) hf with ⟨hcs, _⟩ | ⟨x, len, c, m, k, V0, V1, D0, D1, P0, P1, hcs, _, hl, hm, hmm, _, hi⟩
  · simp [Value.cells] at hcs
    obtain ⟨rfl, rfl, rfl⟩ := hcs
    exact ⟨fun _ => 0, fun _ => 0, ⟨fun i hi => by omega, by omega, .inl rfl⟩, fun _ => rfl, Nat.le_refl _⟩
  · simp [Value.cells] at hcs
    obtain ⟨rfl, rfl, rfl⟩ := hcs
    unfold maxLen at hm
    have each : ∀ i, i < n → ∃ q : Int × Int, ((-9223372036854775808 ≤ q.1 ∧ q.1 ≤ 9223372036854775807) ∧ -9223372036854775808 ≤ q.2 ∧ q.2 ≤ 9223372036854775807) ∧ w.cell? (x.add (i * 2)) = some (.int .i64 q.1) ∧ w.cell? (x.add (i * 2 + 1)) = some (.int .i64 q.2) := by
      intro i hin
      obtain ⟨c0, c1, t0, t1⟩ := hi i (by rw [hmm]; simp; omega)
      obtain ⟨u, e0, _, w0⟩ := DataW.trod_int Try.underlying3 t0
      obtain ⟨v, e1, _, w1⟩ := DataW.trod_int Try.underlying3 t1
      injection e0 with e0; injection e1 with e1
      exact ⟨(u, v), ⟨i64_bounds w0, i64_bounds w1⟩, by rw [c0, e0], by rw [c1, e1]⟩
    obtain ⟨q, hq⟩ := Go.Deep.choose_lt each
    refine ⟨fun i => (q i).1, fun i => (q i).2, ⟨fun i hin => (hq i hin).1, by omega, ?_⟩, (fun e => by cases e), hl⟩
    by_cases h0 : n = 0
    · exact .inl h0
    · obtain ⟨b, off, spot⟩ := x
      have hs : spot = none := by
        have hc := (hq 0 (by omega)).2.1
        simpa [Addr.add] using World.cell?_spot hc
      subst hs
      refine .inr ⟨b, off, rfl, fun i hin => ?_⟩
      obtain ⟨_, c0, c1⟩ := hq i hin
      refine ⟨?_, ?_⟩
      · by_cases hi0 : i * 2 = 0
        · obtain rfl : i = 0 := by omega
          simpa [Addr.add] using c0
        · simpa [Addr.add, hi0] using c0
      · simpa [Addr.add, Nat.add_assoc] using c1
end Go.Proofs.Ytpfpcnfodjmgcaa
