/-
  A scheme, and a year, that came in: structs of slices: what their cells hold.
-/
import Derived.Test.YtpfpcnfodjmgcaaGA
import Derived.Test.YtpfpcnfodjmgcaaRows
import Derived.Test.YtpfpcnfodjmgcaaSaidKit
import Derived.WalkKit
import Derived.Deep.Strs
import Derived.Deep.Slices
import Derived.Deep.SlicePairs
namespace Go.Proofs.Ytpfpcnfodjmgcaa
open Go.ChangeShapes Go.WideShapes Go.ChangeAt Go.RowKit

variable {H : Type} {enc : TypeId × Value → H} {w : World} {base2 : Nat}
theorem cells_fund : Program.cellsOf Try.prog 56 = 3 := by kernel_rfl
theorem cells_int14 : Program.cellsOf Try.prog 3 = 1 := by kernel_rfl
theorem cells_scheme : Program.cellsOf Try.prog 25 = 2 := by kernel_rfl
theorem cells_rows14 : Program.cellsOf Try.prog 22 = 1 := by kernel_rfl
theorem cells_funds14 : Program.cellsOf Try.prog 23 = 1 := by kernel_rfl

theorem slf_of_cells {fuel : Nat} {cs : List Value} {x : DataW H × List MemPlace} (hf : DataW.trod enc Try.prog w 0 (fun _ => true) true fuel 23 cs = some x) :
    ∃ F m cf l, cs = [.slice F m cf] ∧ SlF w F m l := by
  rcases Go.Deep.open_slice Try.underlying23 hf with ⟨hcs, _⟩ | ⟨a, len, cap, m, n, D, Pl, hcs, _, hl, hm, hmm, _, hi⟩
  · exact ⟨none, 0, 0, [], hcs, ⟨rfl, .inl rfl⟩, fun i h => by simp at h, by omega⟩
  · unfold maxLen at hm
    rw [cells_fund] at hi
    have each : ∀ i, i < len → ∃ q : PWh.Fund, PWh.In q ∧ w.cell? (a.add (i * 3)) = some (.int .i64 q.r) ∧ w.cell? ((a.add (i * 3)).add 1) = some (.int .i64 q.e) ∧ w.cell? ((a.add (i * 3)).add 2) = some (.int .i64 q.c) := by
      intro i hin
      obtain ⟨cs', hc, ht⟩ := hi i (by rw [hmm]; simp; omega)
      obtain ⟨_, hcl, hat⟩ := World.cells?_some hc
      obtain ⟨y0, y1, y2, n', _, hlen, h0, h1, h2⟩ := Go.Deep.trod_struct3 Try.underlying56 ht
      simp only [cells_int14] at h0 h1 h2
      obtain ⟨p, e0, _, w0⟩ := DataW.trod_int Try.underlying3 h0
      obtain ⟨q, e1, _, w1⟩ := DataW.trod_int Try.underlying3 h1
      obtain ⟨r, e2, _, w2⟩ := DataW.trod_int Try.underlying3 h2
      match cs', hcl with
      | [u, v, z], _ =>
        simp at e0 e1 e2
        subst e0; subst e1; subst e2
        have g0 := hat 0 (by omega); have g1 := hat 1 (by omega); have g2 := hat 2 (by omega)
        refine ⟨⟨p, q, r⟩, ⟨i64_bounds w0, i64_bounds w1, i64_bounds w2⟩, ?_, ?_, ?_⟩
        · simpa [Addr.add] using g0
        · simpa using g1
        · simpa using g2
    obtain ⟨q, hq⟩ : ∃ q : Nat → PWh.Fund, ∀ i, i < len → PWh.In (q i) ∧ w.cell? (a.add (i * 3)) = some (.int .i64 (q i).r) ∧ w.cell? ((a.add (i * 3)).add 1) = some (.int .i64 (q i).e) ∧ w.cell? ((a.add (i * 3)).add 2) = some (.int .i64 (q i).c) := by
      haveI : Inhabited PWh.Fund := ⟨⟨0, 0, 0⟩⟩
      exact Go.Deep.choose_lt each
    refine ⟨some a, len, cap, (List.range len).map q, hcs, ⟨by simp, ?_⟩, fun i h => ?_, by omega⟩
    · by_cases h0 : len = 0
      · exact .inl h0
      · obtain ⟨b, off, spot⟩ := a
        have hs : spot = none := by
          have hc := (hq 0 (by omega)).2.1
          simpa [Addr.add] using World.cell?_spot hc
        subst hs
        have ad : ∀ j k, ((⟨b, off, none⟩ : Addr).add j).add k = ⟨b, off + j + k, none⟩ := fun j k => by unfold Addr.add; split <;> split <;> simp_all [Nat.add_assoc]
        have ad0 : ∀ j, ((⟨b, off, none⟩ : Addr).add j) = ⟨b, off + j, none⟩ := fun j => by unfold Addr.add; split <;> simp_all
        refine .inr ⟨b, off, rfl, fun i hin j v e => ?_⟩
        have hil : i < len := by simpa using hin
        obtain ⟨_, g0, g1, g2⟩ := hq i hil
        rw [ad0] at g0
        rw [ad] at g1 g2
        have eq : ((List.range len).map q)[i]'hin = q i := by simp
        rw [eq] at e
        match j, e with
        | 0, e => simp [fundR] at e; subst e; exact g0
        | 1, e => simp [fundR] at e; subst e; exact g1
        | 2, e => simp [fundR] at e; subst e; exact g2
    · have hil : i < len := by simpa using h
      have eq : ((List.range len).map q)[i]'h = q i := by simp
      rw [eq]
      exact (hq i hil).1

theorem slp_of_cells {fuel : Nat} {cs : List Value} {x : DataW H × List MemPlace} (hf : DataW.trod enc Try.prog w 0 (fun _ => true) true fuel 22 cs = some x) :
    ∃ A n ca a r, cs = [.slice A n ca] ∧ SlP w A n a r := by
  have hc : ∃ A n ca, cs = [.slice A n ca] := by
    rcases Go.Deep.open_slice Try.underlying22 hf with ⟨hcs, _⟩ | ⟨a, len, cap, _, _, _, _, hcs, _⟩
    · exact ⟨_, _, _, hcs⟩
    · exact ⟨_, _, _, hcs⟩
  obtain ⟨A, n, ca, rfl⟩ := hc
  obtain ⟨a, r, h, _⟩ := slp_of_trod (A := A) (n := n) (cap := ca) (d := x.1) (p := x.2) ⟨fuel, by simpa [Value.cells] using hf⟩
  exact ⟨A, n, ca, a, r, rfl, h⟩

set_option maxRecDepth 100000 in
theorem open_scheme {v : Value} {d : DataW H} {p : List MemPlace} (hval : Value.okWide Try.prog w .any base2 25 v) (h : DataW.Trod enc Try.prog w 0 (fun _ => true) true 25 v d p) :
    ∃ A n ca a r F m cf l, v = .agg #[.slice A n ca, .slice F m cf] ∧ SlP w A n a r ∧ SlF w F m l := by
  obtain ⟨cs, rfl, hsz⟩ := okWide_struct Try.underlying25 hval
  obtain ⟨fuel, hf⟩ := h
  obtain ⟨xs, n, _, _, hl, hlen, hg⟩ := DataW.trod_struct Try.underlying25 hf
  have h0 : DataW.trod enc Try.prog w 0 (fun _ => true) true n 22 (((Value.agg cs).cells.toList.drop 0).take (Program.cellsOf Try.prog 22)) = xs[0]? := hg 0 _ rfl
  have h1 : DataW.trod enc Try.prog w 0 (fun _ => true) true n 23 (((Value.agg cs).cells.toList.drop 1).take (Program.cellsOf Try.prog 23)) = xs[1]? := hg 1 _ rfl
  rw [cells_rows14] at h0
  rw [cells_funds14] at h1
  rw [cells_scheme] at hsz
  have hcs : (Value.agg cs).cells = cs := by simp [Value.cells]
  rw [hcs] at h0 h1
  obtain ⟨l⟩ := cs
  simp only [List.size_toArray] at hsz
  match l, hsz with
  | [u, v], _ =>
    match xs, hlen with
    | [x0, x1], _ =>
      obtain ⟨A, n1, ca, a, r, e0, s0⟩ := slp_of_cells (by simpa using h0)
      obtain ⟨F, m, cf, lf, e1, s1⟩ := slf_of_cells (by simpa using h1)
      simp at e0 e1
      subst e0; subst e1
      exact ⟨A, n1, ca, a, r, F, m, cf, lf, rfl, s0, s1⟩

theorem vsl_of_cells {fuel : Nat} {cs : List Value} {x : DataW H × List MemPlace} (hf : DataW.trod enc Try.prog w 0 (fun _ => true) true fuel 28 cs = some x) :
    ∃ P n cp l, cs = [.slice P n cp] ∧ VSl w (.slice P n cp) l := by
  rcases open_ints Try.underlying28 Try.underlying3 (by kernel_rfl) hf with ⟨hcs, _⟩ | ⟨a, l, c, zs, hcs, _, hl, hm, hz, _, hcell, hwz⟩
  · exact ⟨none, 0, 0, [], hcs, vsl_nil w⟩
  · have hr : IsRow .i64 w (some a) l c zs := .inr ⟨_, rfl, hl, hm, by simpa using hz, hcell, hwz⟩
    have hs := sl_of_row hr
    have hn : (zs.take l).length = l := hs.1
    refine ⟨some a, l, c, zs.take l, hcs, some a, c, by rw [hn], (fun e => by cases e), by rw [hn]; exact hl, by rw [hn]; exact hs⟩
theorem cells_ints14 : Program.cellsOf Try.prog 28 = 1 := by kernel_rfl
theorem cells_year14 : Program.cellsOf Try.prog 30 = 5 := by kernel_rfl

set_option maxRecDepth 100000 in
theorem open_year {v : Value} {d : DataW H} {p : List MemPlace} (hval : Value.okWide Try.prog w .any base2 30 v) (h : DataW.Trod enc Try.prog w 0 (fun _ => true) true 30 v d p) :
    ∃ t b x P np cp O no co lp lo, v = .agg #[.int .i64 t, .int .i64 b, .int .i64 x, .slice P np cp, .slice O no co] ∧ (Lit.int .i64 t).wf = true ∧ (Lit.int .i64 b).wf = true ∧ (Lit.int .i64 x).wf = true ∧ VSl w (.slice P np cp) lp ∧ VSl w (.slice O no co) lo := by
  obtain ⟨cs, rfl, hsz⟩ := okWide_struct Try.underlying30 hval
  obtain ⟨fuel, hf⟩ := h
  obtain ⟨xs, n, _, _, hl, hlen, hg⟩ := DataW.trod_struct Try.underlying30 hf
  have h0 : DataW.trod enc Try.prog w 0 (fun _ => true) true n 3 (((Value.agg cs).cells.toList.drop 0).take (Program.cellsOf Try.prog 3)) = xs[0]? := hg 0 _ rfl
  have h1 : DataW.trod enc Try.prog w 0 (fun _ => true) true n 3 (((Value.agg cs).cells.toList.drop 1).take (Program.cellsOf Try.prog 3)) = xs[1]? := hg 1 _ rfl
  have h2 : DataW.trod enc Try.prog w 0 (fun _ => true) true n 3 (((Value.agg cs).cells.toList.drop 2).take (Program.cellsOf Try.prog 3)) = xs[2]? := hg 2 _ rfl
  have h3 : DataW.trod enc Try.prog w 0 (fun _ => true) true n 28 (((Value.agg cs).cells.toList.drop 3).take (Program.cellsOf Try.prog 28)) = xs[3]? := hg 3 _ rfl
  have h4 : DataW.trod enc Try.prog w 0 (fun _ => true) true n 28 (((Value.agg cs).cells.toList.drop 4).take (Program.cellsOf Try.prog 28)) = xs[4]? := hg 4 _ rfl
  rw [cells_int14] at h0 h1 h2
  rw [cells_ints14] at h3 h4
  rw [cells_year14] at hsz
  have hcs : (Value.agg cs).cells = cs := by simp [Value.cells]
  rw [hcs] at h0 h1 h2 h3 h4
  obtain ⟨l⟩ := cs
  simp only [List.size_toArray] at hsz
  match l, hsz with
  | [u0, u1, u2, u3, u4], _ =>
    match xs, hlen with
    | [x0, x1, x2, x3, x4], _ =>
      obtain ⟨t, e0, _, w0⟩ := DataW.trod_int Try.underlying3 (show DataW.trod enc Try.prog w 0 (fun _ => true) true n 3 [u0] = some x0 by simpa using h0)
      obtain ⟨b, e1, _, w1⟩ := DataW.trod_int Try.underlying3 (show DataW.trod enc Try.prog w 0 (fun _ => true) true n 3 [u1] = some x1 by simpa using h1)
      obtain ⟨x, e2, _, w2⟩ := DataW.trod_int Try.underlying3 (show DataW.trod enc Try.prog w 0 (fun _ => true) true n 3 [u2] = some x2 by simpa using h2)
      obtain ⟨P, np, cp, lp, e3, s3⟩ := vsl_of_cells (show DataW.trod enc Try.prog w 0 (fun _ => true) true n 28 [u3] = some x3 by simpa using h3)
      obtain ⟨O, no, co, lo, e4, s4⟩ := vsl_of_cells (show DataW.trod enc Try.prog w 0 (fun _ => true) true n 28 [u4] = some x4 by simpa using h4)
      simp at e0 e1 e2 e3 e4
      subst e0; subst e1; subst e2; subst e3; subst e4
      exact ⟨t, b, x, P, np, cp, O, no, co, lp, lo, rfl, w0, w1, w2, s3, s4⟩
end Go.Proofs.Ytpfpcnfodjmgcaa
