/-
  What the landed show answers of an expression of what was read of a longer text.
-/
import Derived.Test.YtpakepapjnakgaaDoorShowParsedG
import Derived.Test.YtpakepapjnakgaaDoorShowSubG

set_option linter.unusedVariables false
namespace Go.Proofs.YtpakepapjnakgaaDoor
open Go.RowKit
open PCheck (Xp)
open PTree (R Ex Tr Rl Row)
open PShow (Got got)

theorem read_tx {s : List UInt8} {rs : List Rl} (h : Got s rs) {k : Nat} (hk : k < PTree.sizeOf rs) : (PShow.tx (xpX rs) k).length ≤ 9 * s.length := by
  have ho := of_decide_eq_true (show decide _ = true from (read_in h).1)
  have ht := (PShow.ord_tx ho).2 k (by rw [xpX_len]; exact hk)
  have hown := h.own
  have e : ((xpX rs).map PShow.own).sum = ((PTree.exprsOf 0 rs).map fun x => PShow.own (PShow.exX x)).sum := by unfold xpX; rw [List.map_map]; rfl
  omega
theorem pexpr2 {s : List UInt8} {t : List PLex.Tok} {rs : List Rl} (h : PTree.parse s = some (.ok t rs)) (hs : s.length ≤ 10000) (hz : PTree.sizeOf rs ≤ 500) (hl : rs.length ≤ 500) (hT : (PTree.textB rs).length ≤ 4000) {w : World} {n c rn rc : Nat} {A RA : Option Addr} (hR : SlX rowR w RA rn (PTree.rowsOf 0 rs)) (hE : SlX exR w A n (PTree.exprsOf 0 rs)) (ht : Tab w) (i : Int) :
    Calls Tryd.prog 13 #[.agg #[.slice RA rn rc, .slice A n c], .int .i64 i] w (TextAns (if 0 ≤ i ∧ i < (PTree.sizeOf rs : Int) then some (PShow.tx (xpX rs) i.toNat) else none) w) := by
  have g := got h
  obtain ⟨h1, h2, _⟩ := read_in g
  have ho := of_decide_eq_true (show decide _ = true from h1)
  have hlx := xpX_len rs
  have hc : ∀ k, k < PTree.sizeOf rs → PShow.cnt (xpX rs) k < 10000 := fun k hk => by
    have := PShow.ord_cnt ho (k := k) (by omega)
    omega
  have e1 : n = PTree.sizeOf rs := by rw [← PTree.exprsOf_len 0 rs]; exact hE.1.symm
  have e2 : rn = rs.length := by rw [← rwX_len rs]; exact (slx_rw hR).1.symm
  have k := kexpr_any (rc := rc) (c := c) (i := i) (slx_rw hR) (slx_xpX hE) ht (by omega) (by omega) (read_vals g) (fun _ => ⟨fun r hr => by
    have hr2 := (PShow.ord_all ho).2.2 r.2.2 (List.mem_map.2 ⟨r, hr, rfl⟩)
    exact hc _ (by omega), by rw [h2]; exact hT⟩) (fun _ k hk => ⟨hc k (by omega), by have := read_tx g (k := k) (by omega); omega⟩)
  have e : exprOf (xpX rs) (rwX rs) i = if 0 ≤ i ∧ i < (PTree.sizeOf rs : Int) then some (PShow.tx (xpX rs) i.toNat) else none := by
    unfold exprOf
    rw [read_text h, xpX_len]
    simp
  rw [e] at k
  exact k
end Go.Proofs.YtpakepapjnakgaaDoor
