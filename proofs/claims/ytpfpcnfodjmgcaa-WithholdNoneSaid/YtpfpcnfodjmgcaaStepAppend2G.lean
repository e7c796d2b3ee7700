/-
  append of a slice of ints to a row of the call's own, within a region that draws its order.
-/
import Derived.Test.YtpfpcnfodjmgcaaGB
import Derived.Laws.AppendOwnNone
import Derived.Maps.AppendAt
namespace Go.Proofs.Ytpfpcnfodjmgcaa
open Go.RowKit

theorem step_append_sl (w : World) {ops : Array Oper} {o : Oper} {a : Act} {K : Act → World → Prop} {Q : Exit → Act → World → Prop} {E : Prop} (hgd : o.guard = none) (s x : Operand)
    (ho : o.op = .call { callee := .builtin .append, args := #[s, x], argTypes := #[28, 28] })
    (base : Nat) (v : Value) (n : Nat) (xs : List Int) (hs : a.eval s = v) (hown : w.ownsRow base 3 1 v n (cellsOfInts xs))
    (A : Option Addr) (m c : Nat) (l : List Int) (hx : a.eval x = .slice A m c) (hc : A = none → c = 0) (hsl : Sl w A m l) (hn : n + m ≤ 1000) (hbase : base ≤ w.heap.size)
    (h : ∀ v' w', w'.ownsRow base 3 1 v' (n + m) (cellsOfInts (xs ++ l)) → Below base w w' →
      (∀ u k z, w.ownsRow base 3 1 u k (cellsOfInts z) → Ap u v → w'.ownsRow base 3 1 u k (cellsOfInts z) ∧ Ap u v') →
      (∀ p u, w.cell? p = some u → v.ownBlock ≠ some p.block → w'.cell? p = some u) → K (a.put o.dst v') w') :
    if Region.wanted o (yielded ops a.tmps) = true then Oper.wp Try.prog o a w K Q else E := by
  have hw : Region.wanted o (yielded ops a.tmps) = true := by simp [Region.wanted, hgd]
  rw [if_pos hw]
  obtain ⟨i0, hi, hz0, hz1, hz2⟩ := info_parts infoInt
  obtain ⟨h1, h2, h3, h4⟩ := hsl
  cases A with
  | none =>
    obtain rfl := hc rfl
    have hm : m = 0 := by
      rcases h4 with h4 | ⟨b, off, e, _⟩
      · exact h4
      · cases e
    subst hm
    obtain rfl : l = [] := List.eq_nil_of_length_eq_zero h1
    have hrun := run_append_owned_none (P := Try.prog) (w := w) base 28 o.type 3 i0 1 Try.underlying28 hi v n _ hown
    have hK := h v w (by rw [List.append_nil]; exact hown) (Below.refl _ _) (fun u k z hu ha => ⟨hu, ha⟩) (fun p u hp _ => hp)
    unfold Oper.wp
    simp [execOp, ho, resolve, invoke, builtin, hs, hx, hrun, Result.andThen]
    exact hK
  | some ad =>
    have hnews : ∀ j u, (cellsOfInts l)[j]? = some u → w.cell? (ad.add j) = some u := by
      intro j u hj
      have hjl : j < l.length := by
        have := (List.getElem?_eq_some_iff.1 hj).1
        rwa [cellsOfInts_len] at this
      rw [cellsOfInts_get l j hjl] at hj
      rcases h4 with h4 | ⟨b, off, e, hcell⟩
      · omega
      · cases e
        rw [← hj, ← hcell j (by omega)]
        by_cases h0 : j = 0
        · subst h0; rfl
        · simp [Addr.add, h0]
    obtain ⟨v', w', hrun, ho', hg, -, hat⟩ := run_append_own_at (P := Try.prog) w base 28 o.type 3 i0 (.int .i64 0) 1 8 Try.underlying28 hi hz0 hz1 hz2 rfl (by decide) v n _ hown ad m c (cellsOfInts l) (by rw [cellsOfInts_len, h1]; omega) hnews (fun u hu => by obtain ⟨y, _, rfl⟩ := List.mem_map.1 hu; rfl) (by unfold maxLen; omega) (by omega) hbase
    have hK := h v' w' (by rw [cellsOfInts_app]; exact ho') ((Below.refl _ _).grown hg hbase (fun k hk => (hown.lt k hk).1)) (fun u k z hu hap => by
      refine ⟨hu.kept hg ?_, ?_⟩
      · cases hb : u.ownBlock with
        | none => exact .inl rfl
        | some k => exact .inr (fun e => hap k hb e.symm)
      · intro k hk hv'
        have hlt := (hu.lt k hk).2
        rcases hat with e | e
        · exact hap k hk (by rw [← e, hv'])
        · rw [e] at hv'; injection hv' with hv'; omega) (fun p u hp hne => hg.cell hp (fun e => hne e.symm))
    unfold Oper.wp
    simp [execOp, ho, resolve, invoke, builtin, hs, hx, hrun, Result.andThen]
    exact hK
end Go.Proofs.Ytpfpcnfodjmgcaa
