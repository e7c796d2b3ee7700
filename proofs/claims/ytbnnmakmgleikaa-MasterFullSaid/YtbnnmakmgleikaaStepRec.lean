/-
  append of one record to a row of the call's own, within a region that draws its order: the record lies in whatever block.
-/
import Derived.Test.YtbnnmakmgleikaaRecKit
import Derived.Deep.AppendLies
import Derived.Deep.RegionLaw
namespace Go.Proofs.Ytbnnmakmgleikaa
open Go.RowKit
variable {α : Type} {R : Rec α}

theorem own_kept {w w' : World} {B e size n : Nat} {v : Value} {xs : List Value} (h : w.ownsRow B e size v n xs) (hb : Below w.heap.size w w') : w'.ownsRow B e size v n xs := by
  obtain ⟨h1, h2⟩ := h
  refine ⟨h1, ?_⟩
  rcases h2 with h2 | ⟨g, cap, cur, hv, hg, hh, r⟩
  · exact .inl h2
  · refine .inr ⟨g, cap, cur, hv, hg, ?_, r⟩
    rw [hb.block g (World.ownsRow.lt (w := w) ⟨h1, .inr ⟨g, cap, cur, hv, hg, hh, r⟩⟩ g (by rw [hv]; rfl)).2]; exact hh
theorem own_slice {w : World} {base e size n : Nat} {v : Value} {xs : List Value} (h : w.ownsRow base e size v n xs) : ∃ A cap, v = .slice A n cap ∧ (A = none → cap = 0) := by
  rcases h.2 with ⟨rfl, rfl⟩ | ⟨g, cap, cur, rfl, _⟩
  · exact ⟨none, 0, rfl, fun _ => rfl⟩
  · exact ⟨_, cap, rfl, fun e => by cases e⟩
theorem step_append_rec {e t : TypeId} {bytes : Nat} (T : RecTy R e t bytes) (w : World) {ops : Array Oper} {o : Oper} {a : Act} {K : Act → World → Prop} {Q : Exit → Act → World → Prop} {E : Prop} (hgd : o.guard = none) (s x : Operand)
    (ho : o.op = .call { callee := .builtin .append, args := #[s, x], argTypes := #[t, t] })
    (base : Nat) (v : Value) (n : Nat) (l : List α) (y : α) (hs : a.eval s = v) (hown : w.ownsRow base e R.k v n (R.cells l))
    (H1 : Nat) (hx : a.eval x = .slice (some ⟨H1, 0, none⟩) 1 1) (hc : ∀ j u, (R.C y)[j]? = some u → w.cell? ⟨H1, j, none⟩ = some u) (hn : n + 1 ≤ 100000) (hbase : base ≤ w.heap.size)
    (h : ∀ g cap w', w'.ownsRow base e R.k (.slice (some ⟨g, 0, none⟩) (n + 1) cap) (n + 1) (R.cells (l ++ [y])) → w.grownBy w' v.ownBlock → (v.ownBlock = some g ∨ g = w.heap.size) → Below base w w' → K (a.put o.dst (.slice (some ⟨g, 0, none⟩) (n + 1) cap)) w') :
    if Region.wanted o (yielded ops a.tmps) = true then Oper.wp Try.prog o a w K Q else E := by
  obtain ⟨z, hz, hzs⟩ := T.info
  obtain ⟨i0, hi, hz0, hz1, hz2⟩ := info_parts hz
  refine step_append_lies w hgd s x t ho base e i0 z R.k bytes T.under hi hz0 hz1 hz2 hzs R.pos v n _ hs hown ⟨H1, 0, none⟩ 1 1 (R.C y) hx (by rw [R.len, Nat.one_mul]) (fun j u hj => ?_) (R.one y) (by omega) (by unfold maxLen; omega) ?_ hbase w.heap.size rfl (fun g cap w' ho' hg hat _ => h g cap w' ?_ hg hat ?_)
  · rw [addr_add]; exact hc j u hj
  · have := Nat.mul_le_mul hn T.few; omega
  · rw [R.cells_append, R.cells_one]; exact ho'
  · exact (Below.refl _ _).grown hg hbase (fun k hk => (hown.lt k hk).1)
end Go.Proofs.Ytbnnmakmgleikaa
