/-
  A slice of arrays of two numbers that came in: what its cells hold.
-/
import Derived.Test.YtpfpcnfodjmgcaaPairKit
namespace Go.Proofs.Ytpfpcnfodjmgcaa
open Go.ChangeShapes Go.WideShapes Go.ChangeAt Go.RowKit

theorem cells_arr2 : Program.cellsOf Try.prog 49 = 2 := by kernel_rfl
theorem cells_i64 : Program.cellsOf Try.prog 2 = 1 := by kernel_rfl

set_option maxRecDepth 100000 in
theorem slp_of_arrays {H : Type} {enc : TypeId × Value → H} {w : World} {A : Option Addr} {n cap : Nat} {d : DataW H} {p : List MemPlace} (h : DataW.Trod enc Try.prog w 0 (fun _ => true) true 48 (.slice A n cap) d p) :
    ∃ a r, SlP w A n a r := by
  obtain ⟨fuel, hf⟩ := h
  rcases Go.Deep.open_slice Try.underlying48 hf with ⟨hcs, _⟩ | ⟨x, len, c, m, k, D, Pl, hcs, _, hl, hm, hmm, _, hi⟩
  · simp [Value.cells] at hcs
    obtain ⟨rfl, rfl, rfl⟩ := hcs
    exact ⟨fun _ => 0, fun _ => 0, ⟨fun i hi => by omega, by omega, .inl rfl⟩⟩
  · simp [Value.cells] at hcs
    obtain ⟨rfl, rfl, rfl⟩ := hcs
    unfold maxLen at hm
    rw [cells_arr2] at hi
    have each : ∀ i, i < n → ∃ q : Int × Int, ((-9223372036854775808 ≤ q.1 ∧ q.1 ≤ 9223372036854775807) ∧ -9223372036854775808 ≤ q.2 ∧ q.2 ≤ 9223372036854775807) ∧ w.cell? (x.add (i * 2)) = some (.int .i64 q.1) ∧ w.cell? ((x.add (i * 2)).add 1) = some (.int .i64 q.2) := by
      intro i hin
      obtain ⟨cs', hc, ht⟩ := hi i (by rw [hmm]; simp; omega)
      obtain ⟨_, hcl, hat⟩ := World.cells?_some hc
      obtain ⟨xs, n', _, _, _, hlen, hg⟩ := DataW.trod_array Try.underlying49 ht
      have h0 := hg 0 (by omega); have h1 := hg 1 (by omega)
      rw [cells_i64] at h0 h1
      match cs', hcl with
      | [u, v], _ =>
        match xs, hlen with
        | [x0, x1], _ =>
          obtain ⟨y, e0, _, w0⟩ := DataW.trod_int Try.underlying2 (show DataW.trod enc Try.prog w 0 (fun _ => true) true n' 2 [u] = some x0 by simpa using h0)
          obtain ⟨z, e1, _, w1⟩ := DataW.trod_int Try.underlying2 (show DataW.trod enc Try.prog w 0 (fun _ => true) true n' 2 [v] = some x1 by simpa using h1)
          simp at e0 e1
          subst e0; subst e1
          have g0 := hat 0 (by omega); have g1 := hat 1 (by omega)
          refine ⟨(y, z), ⟨i64_bounds w0, i64_bounds w1⟩, ?_, ?_⟩
          · simpa [Addr.add] using g0
          · simpa using g1
    obtain ⟨q, hq⟩ := Go.Deep.choose_lt each
    refine ⟨fun i => (q i).1, fun i => (q i).2, ⟨fun i hin => (hq i hin).1, by omega, ?_⟩⟩
    by_cases h0 : n = 0
    · exact .inl h0
    · obtain ⟨b, off, spot⟩ := x
      have hs : spot = none := by
        have hc := (hq 0 (by omega)).2.1
        simpa [Addr.add] using World.cell?_spot hc
      subst hs
      have ad : ∀ j k, ((⟨b, off, none⟩ : Addr).add j).add k = ⟨b, off + j + k, none⟩ := fun j k => by unfold Addr.add; split <;> split <;> simp_all [Nat.add_assoc]
      have ad0 : ∀ j, ((⟨b, off, none⟩ : Addr).add j) = ⟨b, off + j, none⟩ := fun j => by unfold Addr.add; split <;> simp_all
      refine .inr ⟨b, off, rfl, fun i hin => ?_⟩
      obtain ⟨_, c0, c1⟩ := hq i hin
      rw [ad0] at c0
      rw [ad] at c1
      exact ⟨c0, c1⟩
end Go.Proofs.Ytpfpcnfodjmgcaa
