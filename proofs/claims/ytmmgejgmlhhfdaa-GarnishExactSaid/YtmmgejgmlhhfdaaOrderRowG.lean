/-
  A slice of orders that came in: what its cells hold.
-/
import Derived.Test.YtmmgejgmlhhfdaaGaKit
import Derived.Test.YtmmgejgmlhhfdaaRows
import Derived.WalkKit
import Derived.ProofKit
import Derived.OpenShut
import Derived.Deep.Slices
namespace Go.Proofs.Ytmmgejgmlhhfdaa
open Go.ChangeShapes Go.WideShapes Go.ChangeAt Go.RowKit

theorem cells_order : Program.cellsOf Try.prog 35 = 4 := by kernel_rfl
theorem cells_int15 : Program.cellsOf Try.prog 3 = 1 := by kernel_rfl

set_option maxRecDepth 100000 in
theorem slo_of_trod {H : Type} {enc : TypeId × Value → H} {w : World} {A : Option Addr} {n cap : Nat} {d : DataW H} {p : List MemPlace} (h : DataW.Trod enc Try.prog w 0 (fun _ => true) true 22 (.slice A n cap) d p) :
    ∃ l, SlO w A n l ∧ (A = none → cap = 0) := by
  obtain ⟨fuel, hf⟩ := h
  rcases Go.Deep.open_slice Try.underlying22 hf with ⟨hcs, _⟩ | ⟨x, len, c, m, k, D, Pl, hcs, _, hl, hm, hmm, _, hi⟩
  · simp [Value.cells] at hcs
    obtain ⟨rfl, rfl, rfl⟩ := hcs
    exact ⟨[], ⟨⟨rfl, .inl rfl⟩, fun i h => by simp at h, by omega⟩, fun _ => rfl⟩
  · simp [Value.cells] at hcs
    obtain ⟨rfl, rfl, rfl⟩ := hcs
    unfold maxLen at hm
    rw [cells_order] at hi
    have each : ∀ i, i < n → ∃ q : PGa.Ord, PGa.In q ∧ w.cell? (x.add (i * 4)) = some (.int .i64 q.c) ∧ w.cell? ((x.add (i * 4)).add 1) = some (.int .i64 q.p) ∧ w.cell? ((x.add (i * 4)).add 2) = some (.int .i64 q.cl) ∧ w.cell? ((x.add (i * 4)).add 3) = some (.int .i64 q.ba) := by
      intro i hin
      obtain ⟨cs', hc, ht⟩ := hi i (by rw [hmm]; simp; omega)
      obtain ⟨_, hcl, hat⟩ := World.cells?_some hc
      obtain ⟨xs, n', _, _, _, hlen, hg⟩ := DataW.trod_struct Try.underlying35 ht
      have h0 : DataW.trod enc Try.prog w 0 (fun _ => true) true n' 3 ((cs'.drop 0).take (Program.cellsOf Try.prog 3)) = xs[0]? := hg 0 _ rfl
      have h1 : DataW.trod enc Try.prog w 0 (fun _ => true) true n' 3 ((cs'.drop 1).take (Program.cellsOf Try.prog 3)) = xs[1]? := hg 1 _ rfl
      have h2 : DataW.trod enc Try.prog w 0 (fun _ => true) true n' 3 ((cs'.drop 2).take (Program.cellsOf Try.prog 3)) = xs[2]? := hg 2 _ rfl
      have h3 : DataW.trod enc Try.prog w 0 (fun _ => true) true n' 3 ((cs'.drop 3).take (Program.cellsOf Try.prog 3)) = xs[3]? := hg 3 _ rfl
      rw [cells_int15] at h0 h1 h2 h3
      match cs', hcl with
      | [u0, u1, u2, u3], _ =>
        match xs, hlen with
        | [x0, x1, x2, x3], _ =>
          obtain ⟨y0, e0, _, w0⟩ := DataW.trod_int Try.underlying3 (show DataW.trod enc Try.prog w 0 (fun _ => true) true n' 3 [u0] = some x0 by simpa using h0)
          obtain ⟨y1, e1, _, w1⟩ := DataW.trod_int Try.underlying3 (show DataW.trod enc Try.prog w 0 (fun _ => true) true n' 3 [u1] = some x1 by simpa using h1)
          obtain ⟨y2, e2, _, w2⟩ := DataW.trod_int Try.underlying3 (show DataW.trod enc Try.prog w 0 (fun _ => true) true n' 3 [u2] = some x2 by simpa using h2)
          obtain ⟨y3, e3, _, w3⟩ := DataW.trod_int Try.underlying3 (show DataW.trod enc Try.prog w 0 (fun _ => true) true n' 3 [u3] = some x3 by simpa using h3)
          simp at e0 e1 e2 e3
          subst e0; subst e1; subst e2; subst e3
          have g0 := hat 0 (by omega); have g1 := hat 1 (by omega); have g2 := hat 2 (by omega); have g3 := hat 3 (by omega)
          refine ⟨⟨y0, y1, y2, y3⟩, ⟨i64_bounds w0, i64_bounds w1, i64_bounds w2, i64_bounds w3⟩, ?_, ?_, ?_, ?_⟩
          · simpa [Addr.add] using g0
          · simpa using g1
          · simpa using g2
          · simpa using g3
    obtain ⟨q, hq⟩ : ∃ q : Nat → PGa.Ord, ∀ i, i < n → PGa.In (q i) ∧ w.cell? (x.add (i * 4)) = some (.int .i64 (q i).c) ∧ w.cell? ((x.add (i * 4)).add 1) = some (.int .i64 (q i).p) ∧ w.cell? ((x.add (i * 4)).add 2) = some (.int .i64 (q i).cl) ∧ w.cell? ((x.add (i * 4)).add 3) = some (.int .i64 (q i).ba) := by
      haveI : Inhabited PGa.Ord := ⟨⟨0, 0, 0, 0⟩⟩
      exact Go.Deep.choose_lt each
    refine ⟨(List.range n).map q, ⟨⟨by simp, ?_⟩, fun i h => ?_, by omega⟩, (fun e => by cases e)⟩
    · by_cases h0 : n = 0
      · exact .inl h0
      · obtain ⟨b, off, spot⟩ := x
        have hs : spot = none := by
          have hc := (hq 0 (by omega)).2.1
          simpa [Addr.add] using World.cell?_spot hc
        subst hs
        have ad : ∀ j k, ((⟨b, off, none⟩ : Addr).add j).add k = ⟨b, off + j + k, none⟩ := fun j k => by unfold Addr.add; split <;> split <;> simp_all [Nat.add_assoc]
        have ad0 : ∀ j, ((⟨b, off, none⟩ : Addr).add j) = ⟨b, off + j, none⟩ := fun j => by unfold Addr.add; split <;> simp_all
        refine .inr ⟨b, off, rfl, fun i hin j v e => ?_⟩
        have hil : i < n := by simpa using hin
        obtain ⟨_, g0, g1, g2, g3⟩ := hq i hil
        rw [ad0] at g0
        rw [ad] at g1 g2 g3
        have eq : ((List.range n).map q)[i]'hin = q i := by simp
        rw [eq] at e
        match j, e with
        | 0, e => simp [ordR] at e; subst e; exact g0
        | 1, e => simp [ordR] at e; subst e; exact g1
        | 2, e => simp [ordR] at e; subst e; exact g2
        | 3, e => simp [ordR] at e; subst e; exact g3
    · have hil : i < n := by simpa using h
      have eq : ((List.range n).map q)[i]'h = q i := by simp
      rw [eq]
      exact (hq i hil).1
end Go.Proofs.Ytmmgejgmlhhfdaa
