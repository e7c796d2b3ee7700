/-
  What the landed show answers of what was read: its text, and that of each of its expressions.
-/
import Derived.Test.YtpakepapjnakgaaDoorShowExprOfG
import Derived.Test.YtpakepapjnakgaaDoorSM

set_option linter.unusedVariables false
namespace Go.Proofs.YtpakepapjnakgaaDoor
open Go.RowKit
open PCheck (Xp)
open PTree (R Ex Tr Rl Row)
open PShow (Got got)

theorem read_in {s : List UInt8} {rs : List Rl} (h : Got s rs) : inOrd (xpX rs) (rwX rs) = true ∧ PShow.linesTx (xpX rs) (rwX rs) = PTree.textB rs ∧ PShow.Ahead (xpX rs) := by
  obtain ⟨h1, h2, h3⟩ := PShow.read_lines (fun r hr => (h.wf r hr).2.2.2.1)
  refine ⟨?_, h3, h2⟩
  unfold inOrd
  rw [decide_eq_true_eq]
  refine h1.trans ?_
  rw [← PShow.rows_roots]
  unfold rwX
  rw [List.map_map]
  rfl
theorem read_text {s : List UInt8} {t : List PLex.Tok} {rs : List Rl} (h : PTree.parse s = some (.ok t rs)) : textOf (xpX rs) (rwX rs) = some (PTree.textB rs) := by
  obtain ⟨h1, h2, _⟩ := read_in (got h)
  unfold textOf
  rw [h1, h2, PTree.parse_back h]
  simp
theorem xpX_len (rs : List Rl) : (xpX rs).length = PTree.sizeOf rs := by unfold xpX; rw [List.length_map]; exact PTree.exprsOf_len 0 rs
theorem rwX_len (rs : List Rl) : (rwX rs).length = rs.length := by
  unfold rwX; rw [List.length_map]
  have : ∀ (rs : List Rl) (o : Nat), (PTree.rowsOf o rs).length = rs.length := by
    intro rs
    induction rs with
    | nil => intro o; rfl
    | cons r rs ih => intro o; simp [PTree.rowsOf, ih]
  exact this rs 0
theorem read_vals {s : List UInt8} {rs : List Rl} (h : Got s rs) : ∀ x ∈ xpX rs, -9223372036854775808 ≤ x.value ∧ x.value ≤ 9223372036854775807 := by
  intro x hx
  obtain ⟨y, hy, rfl⟩ := List.mem_map.1 hx
  obtain ⟨⟨h1, h2⟩, -⟩ := h.vals y hy
  exact ⟨by show _ ≤ y.value; omega, h2⟩
theorem read_prem {s : List UInt8} {t : List PLex.Tok} {rs : List Rl} (h : PTree.parse s = some (.ok t rs)) (hs : s.length ≤ 500) :
    PTree.sizeOf rs ≤ 500 ∧ rs.length ≤ 500 ∧ ((∀ r ∈ rwX rs, PShow.cnt (xpX rs) r.2.2.toNat < 10000) ∧ (PShow.linesTx (xpX rs) (rwX rs)).length ≤ 4000) ∧
    ∀ k, k < PTree.sizeOf rs → PShow.cnt (xpX rs) k < 10000 ∧ (PShow.tx (xpX rs) k).length ≤ 4500 := by
  have hf := PTree.parse_fewP h
  have g := got h
  obtain ⟨h1, h2, _⟩ := read_in g
  have ho := of_decide_eq_true (show decide _ = true from h1)
  have hl := xpX_len rs
  have hc : ∀ k, k < PTree.sizeOf rs → PShow.cnt (xpX rs) k < 10000 := fun k hk => by
    have := PShow.ord_cnt ho (k := k) (by omega)
    omega
  have hown := g.own
  have ht := (PShow.ord_tx ho).2
  have e : ((xpX rs).map PShow.own).sum = ((PTree.exprsOf 0 rs).map fun x => PShow.own (PShow.exX x)).sum := by unfold xpX; rw [List.map_map]; rfl
  refine ⟨by omega, by omega, ⟨fun r hr => ?_, by rw [h2]; have := g.len; omega⟩, fun k hk => ⟨hc k hk, by have := ht k (by omega); omega⟩⟩
  have hr2 := (PShow.ord_all ho).2.2 r.2.2 (List.mem_map.2 ⟨r, hr, rfl⟩)
  exact hc _ (by omega)
/-- Text of what was read. -/
theorem ptext {s : List UInt8} {t : List PLex.Tok} {rs : List Rl} (h : PTree.parse s = some (.ok t rs)) (hs : s.length ≤ 500) {w : World} {n c rn rc : Nat} {A RA : Option Addr} (hR : SlX rowR w RA rn (PTree.rowsOf 0 rs)) (hE : SlX exR w A n (PTree.exprsOf 0 rs)) (ht : Tab w) :
    Calls Tryd.prog 10 #[.agg #[.slice RA rn rc, .slice A n c]] w (TextAns (some (PTree.textB rs)) w) := by
  obtain ⟨h1, h2, h3, h4⟩ := read_prem h hs
  have e1 : n = PTree.sizeOf rs := by rw [← PTree.exprsOf_len 0 rs]; exact hE.1.symm
  have e2 : rn = rs.length := by rw [← rwX_len rs]; exact (slx_rw hR).1.symm
  have k := ktext_any (rc := rc) (c := c) (slx_rw hR) (slx_xpX hE) ht (by omega) (by omega) (read_vals (got h)) (fun _ => h3)
  rw [read_text h] at k
  exact k
/-- .. and of one of its expressions. -/
theorem pexpr {s : List UInt8} {t : List PLex.Tok} {rs : List Rl} (h : PTree.parse s = some (.ok t rs)) (hs : s.length ≤ 500) {w : World} {n c rn rc : Nat} {A RA : Option Addr} (hR : SlX rowR w RA rn (PTree.rowsOf 0 rs)) (hE : SlX exR w A n (PTree.exprsOf 0 rs)) (ht : Tab w) (i : Int) :
    Calls Tryd.prog 13 #[.agg #[.slice RA rn rc, .slice A n c], .int .i64 i] w (TextAns (if 0 ≤ i ∧ i < (PTree.sizeOf rs : Int) then some (PShow.tx (xpX rs) i.toNat) else none) w) := by
  obtain ⟨h1, h2, h3, h4⟩ := read_prem h hs
  have e1 : n = PTree.sizeOf rs := by rw [← PTree.exprsOf_len 0 rs]; exact hE.1.symm
  have e2 : rn = rs.length := by rw [← rwX_len rs]; exact (slx_rw hR).1.symm
  have k := kexpr_any (rc := rc) (c := c) (i := i) (slx_rw hR) (slx_xpX hE) ht (by omega) (by omega) (read_vals (got h)) (fun _ => h3) (fun _ k hk => by have := h4 k (by omega); omega)
  have e : exprOf (xpX rs) (rwX rs) i = if 0 ≤ i ∧ i < (PTree.sizeOf rs : Int) then some (PShow.tx (xpX rs) i.toNat) else none := by
    unfold exprOf
    rw [read_text h, xpX_len]
    simp
  rw [e] at k
  exact k
end Go.Proofs.YtpakepapjnakgaaDoor
