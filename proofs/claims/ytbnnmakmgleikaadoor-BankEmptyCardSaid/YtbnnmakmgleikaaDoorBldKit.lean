/-
  A builder beside rows of the call's own: what stands while the other one grows.
-/
import Derived.Test.YtbnnmakmgleikaaDoorShowBld
set_option linter.unusedVariables false
namespace Go.Proofs.YtbnnmakmgleikaaDoor
open Go.RowKit

theorem own_built {α : Type} (R : Rec α) (w : World) (e : TypeId) (l : List α) {base : Nat} (hb : base ≤ w.heap.size) (hm : l.length ≤ maxLen) :
    (w.alloc (.cells (R.cells l).toArray e)).ownsRow base e R.k (.slice (some ⟨w.heap.size, 0, none⟩) l.length l.length) l.length (R.cells l) :=
  ⟨R.cells_len l, .inr ⟨w.heap.size, l.length, (R.cells l).toArray, rfl, hb, heap_alloc_new w _, Nat.le_refl _, hm, by rw [List.size_toArray]; exact R.cells_len l, by rw [List.take_of_length_le (by rw [R.cells_len]; exact Nat.le_refl _)]⟩⟩
/-- A row of another type stands behind the builder's write. -/
theorem own_others {w w' : World} {b base e e' size n : Nat} {v : Value} {xs : List Value} (h : w.ownsRow base e size v n xs) (hk : Lib.OthersKept e' (some b) w w') (he : e ≠ e') (hb : v.ownBlock ≠ some b) : w'.ownsRow base e size v n xs := by
  obtain ⟨h1, h2⟩ := h
  refine ⟨h1, ?_⟩
  rcases h2 with h2 | ⟨g, cap, cur, rfl, hg, hh, r⟩
  · exact .inl h2
  · refine .inr ⟨g, cap, cur, rfl, hg, hk g _ hh (fun e => hb (by rw [← e]; rfl)) (fun c fz e => ?_), r⟩
    cases e
    exact he rfl
/-- A builder's block, and a row's, are unlike. -/
theorem bld_apart {w : World} {B b base e size n : Nat} {v : Value} {xs : List Value} {l : List UInt8} (h : Bld B b l w) (ho : w.ownsRow base e size v n xs) (he : e ≠ 56) : v.ownBlock ≠ some b := by
  obtain ⟨p, q, hb⟩ : ∃ p q, w.heap[b]? = some (.cells #[p, q] 56 (0, 0)) := by
    rcases h with h | h <;> obtain ⟨_, v', hb, _⟩ := h <;> exact ⟨_, _, hb⟩
  rcases ho.2 with ⟨rfl, _⟩ | ⟨g, cap, cur, rfl, hg, hh, _⟩
  · intro c; cases c
  · intro c
    obtain rfl : g = b := Option.some.inj c
    rw [hb] at hh
    simp only [Option.some.injEq, Obj.cells.injEq] at hh
    exact he hh.2.1.symm
/-- A builder stands while a row of another type grows. -/
theorem bld_others {w w' : World} {B b base e size n : Nat} {v : Value} {xs : List Value} {l : List UInt8} (h : Bld B b l w) (ho : w.ownsRow base e size v n xs) (he : e ≠ 56) (he8 : e ≠ 5) (hk : ∀ k, k < w.heap.size → v.ownBlock ≠ some k → w'.heap[k]? = w.heap[k]?) : Bld B b l w' := by
  have key : ∀ p, Lib.BuilderAtF 56 5 B b p (Lib.byteCells l) w → Lib.BuilderAtF 56 5 B b p (Lib.byteCells l) w' := by
    rintro p ⟨hB, v', hb, hown, hne⟩
    have hlt : b < w.heap.size := (Array.getElem?_eq_some_iff.1 hb).1
    refine ⟨hB, v', (hk b hlt (bld_apart h ho he)).trans hb, ⟨hown.1, ?_⟩, hne⟩
    rcases hown.2 with hn | ⟨g, cap, cur, fz, hv, hbg, hg, rest⟩
    · exact .inl hn
    · refine .inr ⟨g, cap, cur, fz, hv, hbg, (hk g (Array.getElem?_eq_some_iff.1 hg).1 ?_).trans hg, rest⟩
      rcases ho.2 with ⟨rfl, _⟩ | ⟨g', cap', cur', rfl, _, hh, _⟩
      · intro c; cases c
      · intro c
        obtain rfl : g' = g := Option.some.inj c
        rw [hg] at hh
        simp only [Option.some.injEq, Obj.cells.injEq] at hh
        exact he8 hh.2.1.symm
  exact h.elim (fun x => .inl (key _ x)) (fun x => .inr (key _ x))
/-- .. while new memory comes. -/
theorem bld_below {w w' : World} {B b : Nat} {l : List UInt8} (h : Bld B b l w) (hb : Below w.heap.size w w') : Bld B b l w' :=
  bld_others h (World.ownsRow_nil w 0 999999 1) (by decide) (by decide) (fun k hk _ => hb.block k hk)
theorem bld_new (w : World) : Bld w.heap.size w.heap.size [] (w.alloc (.cells #[.pointer none, .slice none 0 0] 56)) :=
  .inl ⟨Nat.le_refl _, .slice none 0 0, heap_alloc_new w _, World.ownsRowF_nil _ _ _ _, by intro c; cases c⟩
end Go.Proofs.YtbnnmakmgleikaaDoor
