/-
  A block of the call's own that holds a struct: what its cells hold, through stores and calls.
-/
import Derived.Test.YtbnnmakmgleikaaBase
import Derived.ProofKit
import Derived.OpenShut
import Derived.ChangeOld
import Derived.Below
import Derived.Laws.NewBlocks
import Derived.Deep.RegionHeld
namespace Go.Proofs.Ytbnnmakmgleikaa
open Go.RowKit

def Box (w : World) (H : Nat) (vs : List Value) : Prop := H < w.heap.size ∧ (∀ j v, vs[j]? = some v → w.cell? ⟨H, j, none⟩ = some v ∧ w.frozen? ⟨H, j, none⟩ = false) ∧ ∀ j, vs.length ≤ j → w.cell? ⟨H, j, none⟩ = none
theorem Box.new (w : World) (t : TypeId) (vs : List Value) : Box (w.alloc (.cells vs.toArray t)) w.heap.size vs := by
  refine ⟨by simp, fun j v h => ⟨?_, World.frozen?_alloc_at _ _ _ _ rfl⟩, fun j h => ?_⟩
  · rw [World.cell?_alloc_at _ _ _ _ rfl]; simpa using h
  · rw [World.cell?_alloc_at _ _ _ _ rfl]; simpa using h
theorem Box.new' (w : World) (t : TypeId) (vs : List Value) {H : Nat} (h : H = w.heap.size) : Box (w.alloc (.cells vs.toArray t)) H vs := by subst h; exact Box.new w t vs
theorem Box.keep {B : Nat} {w w' : World} {H : Nat} {vs : List Value} (h : Box w H vs) (hb : Below B w w') (hH : H < B) : Box w' H vs :=
  ⟨Nat.lt_of_lt_of_le h.1 hb.size, fun j v e => ⟨(hb.cell (p := ⟨H, j, none⟩) hH).trans (h.2.1 j v e).1, (hb.frozen (p := ⟨H, j, none⟩) hH).trans (h.2.1 j v e).2⟩, fun j e => (hb.cell (p := ⟨H, j, none⟩) hH).trans (h.2.2 j e)⟩
theorem Box.on {w w' : World} {H : Nat} {vs : List Value} (h : Box w H vs) (hb : Below w.heap.size w w') : Box w' H vs := h.keep hb h.1
theorem Box.alloc {w : World} {H : Nat} {vs : List Value} (h : Box w H vs) (o : Obj) : Box (w.alloc o) H vs := h.on ((Below.refl _ _).alloc (Nat.le_refl _) o)
theorem box_frozen_set (w : World) (p q : Addr) (v : Value) : (w.setCell p v).frozen? q = w.frozen? q := by go_simp
theorem Box.far {w : World} {H : Nat} {vs : List Value} (h : Box w H vs) {p : Addr} (hp : p.block ≠ H) (v : Value) : Box (w.setCell p v) H vs :=
  ⟨by simp only [World.size_setCell]; exact h.1, fun j v' e => ⟨by rw [World.cell?_setCell_far _ _ _ _ hp]; exact (h.2.1 j v' e).1, by rw [box_frozen_set]; exact (h.2.1 j v' e).2⟩, fun j e => by rw [World.cell?_setCell_far _ _ _ _ hp]; exact h.2.2 j e⟩
theorem Box.set {w : World} {H : Nat} {vs : List Value} (h : Box w H vs) (j : Nat) (hj : j < vs.length) (v : Value) : Box (w.setCell ⟨H, j, none⟩ v) H (vs.set j v) := by
  have h0 := (h.2.1 j vs[j] (List.getElem?_eq_getElem hj)).1
  refine ⟨by simp only [World.size_setCell]; exact h.1, fun k u e => ⟨?_, ?_⟩, fun k e => ?_⟩
  · by_cases hk : k = j
    · subst hk
      rw [List.getElem?_set_self hj] at e
      cases e
      exact World.cell?_setCell_same _ _ _ h0
    · rw [List.getElem?_set_ne (fun e => hk e.symm)] at e
      rw [World.cell?_setCell_other _ _ _ _ (by first | (simp; done) | (simp; omega))]
      exact (h.2.1 k u e).1
  · rw [box_frozen_set]
    by_cases hk : k = j
    · subst hk; exact (h.2.1 k _ (List.getElem?_eq_getElem hj)).2
    · rw [List.getElem?_set_ne (fun e => hk e.symm)] at e
      exact (h.2.1 k u e).2
  · rw [List.length_set] at e
    have hk : k ≠ j := by omega
    rw [World.cell?_setCell_other _ _ _ _ (by first | (simp; done) | (simp; omega))]
    exact h.2.2 k e
/-- A cell that holds what the block does not is elsewhere. -/
theorem Box.apart {w : World} {H b o : Nat} {vs : List Value} {v : Value} (h : Box w H vs) (hc : w.cell? ⟨b, o, none⟩ = some v) (hv : v ∉ vs) : b ≠ H := by
  rintro rfl
  by_cases ho : o < vs.length
  · have := (h.2.1 o _ (List.getElem?_eq_getElem ho)).1
    rw [hc] at this
    exact hv (by rw [Option.some.inj this]; exact List.getElem_mem ho)
  · rw [h.2.2 o (by omega)] at hc; cases hc
theorem Box.c {w : World} {H : Nat} {vs : List Value} (h : Box w H vs) (j : Nat) {v : Value} (e : vs[j]? = some v) : w.cell? ⟨H, j, none⟩ = some v := (h.2.1 j v e).1
theorem Box.f {w : World} {H : Nat} {vs : List Value} (h : Box w H vs) (j : Nat) {v : Value} (e : vs[j]? = some v) : w.frozen? ⟨H, j, none⟩ = false := (h.2.1 j v e).2
theorem box6 {w : World} {H : Nat} {a b c d e f : Value} (h : Box w H [a, b, c, d, e, f]) : w.cell? ⟨H, 0, none⟩ = some a ∧ w.cell? ⟨H, 1, none⟩ = some b ∧ w.cell? ⟨H, 2, none⟩ = some c ∧ w.cell? ⟨H, 3, none⟩ = some d ∧ w.cell? ⟨H, 4, none⟩ = some e ∧ w.cell? ⟨H, 5, none⟩ = some f :=
  ⟨h.c 0 rfl, h.c 1 rfl, h.c 2 rfl, h.c 3 rfl, h.c 4 rfl, h.c 5 rfl⟩
theorem box7 {w : World} {H : Nat} {a b c d e f g : Value} (h : Box w H [a, b, c, d, e, f, g]) : w.cell? ⟨H, 0, none⟩ = some a ∧ w.cell? ⟨H, 1, none⟩ = some b ∧ w.cell? ⟨H, 2, none⟩ = some c ∧ w.cell? ⟨H, 3, none⟩ = some d ∧ w.cell? ⟨H, 4, none⟩ = some e ∧ w.cell? ⟨H, 5, none⟩ = some f ∧ w.cell? ⟨H, 6, none⟩ = some g :=
  ⟨h.c 0 rfl, h.c 1 rfl, h.c 2 rfl, h.c 3 rfl, h.c 4 rfl, h.c 5 rfl, h.c 6 rfl⟩
theorem box7f {w : World} {H : Nat} {a b c d e f g : Value} (h : Box w H [a, b, c, d, e, f, g]) : w.frozen? ⟨H, 0, none⟩ = false ∧ w.frozen? ⟨H, 1, none⟩ = false ∧ w.frozen? ⟨H, 2, none⟩ = false ∧ w.frozen? ⟨H, 3, none⟩ = false ∧ w.frozen? ⟨H, 4, none⟩ = false ∧ w.frozen? ⟨H, 5, none⟩ = false ∧ w.frozen? ⟨H, 6, none⟩ = false :=
  ⟨h.f 0 rfl, h.f 1 rfl, h.f 2 rfl, h.f 3 rfl, h.f 4 rfl, h.f 5 rfl, h.f 6 rfl⟩
/-- All seven cells are stored. -/
theorem Box.all7 {w : World} {H : Nat} {a b c d e f g : Value} (h : Box w H [a, b, c, d, e, f, g]) (a' b' c' d' e' f' g' : Value) :
    Box (((((((w.setCell ⟨H, 0, none⟩ a').setCell ⟨H, 1, none⟩ b').setCell ⟨H, 2, none⟩ c').setCell ⟨H, 3, none⟩ d').setCell ⟨H, 4, none⟩ e').setCell ⟨H, 5, none⟩ f').setCell ⟨H, 6, none⟩ g') H [a', b', c', d', e', f', g'] :=
  ((((((h.set 0 (by simp) a').set 1 (by simp) b').set 2 (by simp) c').set 3 (by simp) d').set 4 (by simp) e').set 5 (by simp) f').set 6 (by simp) g'
theorem below_all7 {B : Nat} {w0 w : World} {H : Nat} (hB : B ≤ H) (h : Below B w0 w) (a' b' c' d' e' f' g' : Value) :
    Below B w0 (((((((w.setCell ⟨H, 0, none⟩ a').setCell ⟨H, 1, none⟩ b').setCell ⟨H, 2, none⟩ c').setCell ⟨H, 3, none⟩ d').setCell ⟨H, 4, none⟩ e').setCell ⟨H, 5, none⟩ f').setCell ⟨H, 6, none⟩ g') :=
  ((((((h.setCell hB a').setCell hB b').setCell hB c').setCell hB d').setCell hB e').setCell hB f').setCell hB g'
/-- Two blocks are new: the world behind. -/
theorem enter2 (w : World) (t t2 : TypeId) (vs zs : List Value) : ∃ w1, (w.alloc (.cells vs.toArray t)).alloc (.cells zs.toArray t2) = w1 ∧ Box w1 w.heap.size vs ∧ Box w1 (w.heap.size + 1) zs ∧ Below w.heap.size w w1 ∧ w1.heap.size = w.heap.size + 2 :=
  ⟨_, rfl, (Box.new w t vs).alloc _, Box.new' _ t2 zs (by simp), ((Below.refl _ _).alloc (Nat.le_refl _) _).alloc (by simp) _, by simp⟩
/-- The worlds differ in one block alone. -/
structure Only (H : Nat) (w w' : World) : Prop where
  size : w'.heap.size = w.heap.size
  cell : ∀ p : Addr, p.block ≠ H → w'.cell? p = w.cell? p
  frozen : ∀ p : Addr, w'.frozen? p = w.frozen? p
  below : ∀ {B : Nat} {w0 : World}, B ≤ H → Below B w0 w → Below B w0 w'
theorem Only.refl (H : Nat) (w : World) : Only H w w := ⟨rfl, fun _ _ => rfl, fun _ => rfl, fun _ h => h⟩
theorem Only.set {H : Nat} {w w' : World} (h : Only H w w') (j : Nat) (v : Value) : Only H w (w'.setCell ⟨H, j, none⟩ v) where
  size := by simp only [World.size_setCell]; exact h.size
  cell := fun p hp => by rw [World.cell?_setCell_far _ _ _ _ (fun e => hp e.symm)]; exact h.cell p hp
  frozen := fun p => by rw [box_frozen_set]; exact h.frozen p
  below := fun hB hb => (h.below hB hb).setCell hB v
theorem Box.only {w w' : World} {H K : Nat} {vs : List Value} (h : Box w K vs) (ho : Only H w w') (hk : K ≠ H) : Box w' K vs :=
  ⟨by rw [ho.size]; exact h.1, fun j v e => ⟨by rw [ho.cell _ hk]; exact h.c j e, by rw [ho.frozen]; exact h.f j e⟩, fun j e => by rw [ho.cell _ hk]; exact h.2.2 j e⟩
/-- All seven cells are stored: the world behind. -/
theorem store7 {w : World} {H : Nat} {a b c d e f g : Value} (h : Box w H [a, b, c, d, e, f, g]) (a' b' c' d' e' f' g' : Value) :
    ∃ w', (((((((w.setCell ⟨H, 0, none⟩ a').setCell ⟨H, 1, none⟩ b').setCell ⟨H, 2, none⟩ c').setCell ⟨H, 3, none⟩ d').setCell ⟨H, 4, none⟩ e').setCell ⟨H, 5, none⟩ f').setCell ⟨H, 6, none⟩ g') = w' ∧ Box w' H [a', b', c', d', e', f', g'] ∧ Only H w w' :=
  ⟨_, rfl, h.all7 a' b' c' d' e' f' g', ((((((((Only.refl H w).set 0 a').set 1 b').set 2 c').set 3 d').set 4 e').set 5 f').set 6 g')⟩
end Go.Proofs.Ytbnnmakmgleikaa
