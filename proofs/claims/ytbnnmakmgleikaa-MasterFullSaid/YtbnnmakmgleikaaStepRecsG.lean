/-
  append of a whole slice of records to a row of the call's own, within a region that draws its order: what stands elsewhere stands.
-/
import Derived.Test.YtbnnmakmgleikaaStepRec
import Derived.Test.YtbnnmakmgleikaaBoxKit
namespace Go.Proofs.Ytbnnmakmgleikaa
open Go.RowKit
variable {α : Type} {R : Rec α}

theorem box_grown {w w' : World} {H : Nat} {vs : List Value} {row : Option Nat} (h : Box w H vs) (hg : w.grownBy w' row) (hne : row ≠ some H) : Box w' H vs :=
  ⟨Nat.lt_of_lt_of_le h.1 hg.size, fun j v e => ⟨(hg.cell_far ⟨H, j, none⟩ h.1 (fun k => hne k.symm)).trans (h.2.1 j v e).1, (hg.frozen_far ⟨H, j, none⟩ h.1 (fun k => hne k.symm)).trans (h.2.1 j v e).2⟩, fun j e => (hg.cell_far ⟨H, j, none⟩ h.1 (fun k => hne k.symm)).trans (h.2.2 j e)⟩
theorem alloc_step (W : World) (o : Obj) : ∃ wN, W.alloc o = wN ∧ W.grownBy wN none ∧ Below W.heap.size W wN ∧ wN.heap.size = W.heap.size + 1 :=
  ⟨_, rfl, World.grownBy_alloc W o none, (Below.refl _ _).alloc (Nat.le_refl _) _, by simp⟩
theorem step_append_recs_g {e t : TypeId} {bytes : Nat} (T : RecTy R e t bytes) (w : World) {ops : Array Oper} {o : Oper} {a : Act} {K : Act → World → Prop} {Q : Exit → Act → World → Prop} {E : Prop} (hgd : o.guard = none) (s x : Operand)
    (ho : o.op = .call { callee := .builtin .append, args := #[s, x], argTypes := #[t, t] })
    (base : Nat) (v : Value) (n : Nat) (l : List α) (hs : a.eval s = v) (hown : w.ownsRow base e R.k v n (R.cells l))
    (A : Option Addr) (m c : Nat) (xs : List α) (hx : a.eval x = .slice A m c) (hsl : SlX R w A m xs) (hm : 0 < m) (hn : n + m ≤ 100000) (hbase : base ≤ w.heap.size) (N : Nat) (hN : n + m = N) (L : List α) (hL : l ++ xs = L)
    (h : ∀ g cap w', w'.ownsRow base e R.k (.slice (some ⟨g, 0, none⟩) N cap) N (R.cells L) → w.grownBy w' v.ownBlock → (v.ownBlock = some g ∨ g = w.heap.size) → Below base w w' → K (a.put o.dst (.slice (some ⟨g, 0, none⟩) N cap)) w') :
    if Region.wanted o (yielded ops a.tmps) = true then Oper.wp Try.prog o a w K Q else E := by
  subst hN; subst hL
  obtain ⟨z, hz, hzs⟩ := T.info
  obtain ⟨i0, hi, hz0, hz1, hz2⟩ := info_parts hz
  obtain ⟨h1, h2⟩ := hsl
  obtain ⟨b, off, rfl, hcell⟩ := h2.resolve_left (by omega)
  refine step_append_lies w hgd s x t ho base e i0 z R.k bytes T.under hi hz0 hz1 hz2 hzs R.pos v n _ hs hown ⟨b, off, none⟩ m c (R.cells xs) hx (by rw [R.cells_len, h1]) (fun j u hj => ?_) (R.cells_one' xs) hm (by unfold maxLen; omega) ?_ hbase w.heap.size rfl (fun g cap w' ho' hg hat _ => h g cap w' ?_ hg hat ?_)
  · obtain ⟨i, hi', q, rfl, hq⟩ := R.cells_at xs j u hj
    rw [addr_add', ← hcell i hi' q u hq, Nat.add_assoc]
  · have := Nat.mul_le_mul hn T.few; omega
  · rw [R.cells_append]; exact ho'
  · exact (Below.refl _ _).grown hg hbase (fun k hk => (hown.lt k hk).1)
end Go.Proofs.Ytbnnmakmgleikaa
