/-
  What the landed check answers: which expressions the last one is made of.
  A map of the call's own from texts to ints: what it holds, by a function; a look-up, and what is put.
  What the landed check answers: the kinds of the names, the first of each.
  What the landed check answers: the kind of one expression, by the kinds of its parts and of the names.
  What the landed check answers: Kind, over any program and bindings.
-/
import Derived.Test.YtfihdbnecepmfaaGreatDoorMC
import Derived.Test.YtfihdbnecepmfaaGreatDoorCP
import Derived.Deep.OwnRows
import Derived.Test.YtfihdbnecepmfaaGreatDoorBase
import Derived.Maps.Own
import Derived.Maps.Views
import Derived.StringKeys
import Derived.Deep.RegionHeld3

namespace Go.Proofs.YtfihdbnecepmfaaGreatDoor
open Go.RowKit
open PCheck (Xp madeF made parts)

theorem make_rowB (L : Nat) (h : L ≤ 1000) (W : World) :
    (Instr.makeSlice 63 (.int .i64 (L : Int)) (.int .i64 (L : Int))).run Tryz.prog W = .ok (.slice (some ⟨W.heap.size, 0, none⟩) L L) (W.alloc (.cells (madeCells #[.bool false] L) 4)) :=
  run_make_row' (P := Tryz.prog) 63 4 (.bool false) 1 Tryz.underlying63 (by kernel_rfl) rfl .i64 .i64 L (by omega) (by omega) W
/-- A row of flags in a block of its own. -/
def RwB (w : World) (H N : Nat) (l : List Bool) : Prop := l.length = N ∧ ∀ t, t < N → w.cell? ⟨H, t, none⟩ = some (.bool (l.getD t false)) ∧ w.frozen? ⟨H, t, none⟩ = false
theorem made_rwB (w : World) (L : Nat) : RwB (w.alloc (.cells (madeCells #[.bool false] L) 4)) w.heap.size L (List.replicate L false) := by
  have e : madeCells #[.bool false] L = (List.replicate L (Value.bool false)).toArray := by
    apply Array.ext'; simp [madeCells, Nat.mod_one, List.map_const']
  rw [e]
  have h := Box.new w 4 (List.replicate L (Value.bool false))
  refine ⟨List.length_replicate, fun t ht => ?_⟩
  have hv : (List.replicate L (Value.bool false))[t]? = some (.bool false) := by simp [ht]
  have h0 : (List.replicate L false).getD t false = false := by simp [List.getD, ht]
  rw [h0]
  exact ⟨h.c t hv, h.f t hv⟩
theorem RwB.on {w w' : World} {H N : Nat} {l : List Bool} (h : RwB w H N l) (hb : Below w.heap.size w w') : RwB w' H N l :=
  ⟨h.1, fun t ht => ⟨(hb.cell (World.block_lt_of_cell? w _ (h.2 t ht).1)).trans (h.2 t ht).1, (hb.frozen (p := ⟨H, t, none⟩) (World.block_lt_of_cell? w _ (h.2 t ht).1)).trans (h.2 t ht).2⟩⟩
theorem RwB.set {w : World} {H N : Nat} {l : List Bool} (h : RwB w H N l) {t : Nat} (ht : t < N) (z : Bool) : RwB (w.setCell ⟨H, t, none⟩ (.bool z)) H N (l.set t z) := by
  refine ⟨by rw [List.length_set]; exact h.1, fun s hs => ⟨?_, by rw [box_frozen_set]; exact (h.2 s hs).2⟩⟩
  by_cases e : s = t
  · subst e
    rw [World.cell?_setCell_same _ _ _ (h.2 s hs).1]
    simp [List.getD, h.1, hs]
  · rw [World.cell?_setCell_other _ _ _ _ (by intro c; simp only [Addr.mk.injEq] at c; omega), (h.2 s hs).1]
    simp only [List.getD, List.getElem?_set_ne (Ne.symm e)]
theorem PtI.far {w : World} {lo : Nat} {P : Option Addr} {l : List Int} (h : PtI w lo P l) {H : Nat} (hH : H < lo) (t : Nat) (v : Value) : PtI (w.setCell ⟨H, t, none⟩ v) lo P l := by
  rcases h with h | ⟨b, rfl, hb, h⟩
  · exact .inl h
  · exact .inr ⟨b, rfl, hb, fun j x e => by rw [World.cell?_setCell_far _ _ _ _ (by simp; omega)]; exact h j x e⟩
/-- What is answered. -/
def MadeAns (F : Option (List Bool)) (n : Nat) (w : World) (e : Ending) (w' : World) : Prop := Below w.heap.size w w' ∧ match F with
  | none => e = .returned (.tuple #[.slice none 0 0, .bool false])
  | some m => e = .returned (.tuple #[.slice (some ⟨w.heap.size, 0, none⟩) n n, .bool true]) ∧ RwB w' w.heap.size n m
theorem parts_few3 (x : Xp) : (parts x).length ≤ 3 := by unfold PCheck.parts; (repeat' split) <;> simp
end Go.Proofs.YtfihdbnecepmfaaGreatDoor

namespace Go.Proofs.YtfihdbnecepmfaaGreatDoor
open Go.RowKit
open Go.Maps (IsMap)
open Go.WideMaps (keyOf_string_mk)

abbrev mapK (w : World) (b n : Nat) (D : DataW Unit) : Prop := w.ownsMap Tryz.prog 9 (plainElem Tryz.prog 3) b n D
/-- Block b is a map that holds what f says, at most n texts. -/
def MapOf (w : World) (b n : Nat) (f : List UInt8 → Option Int) : Prop := ∃ D : DataW Unit, mapK w b n D ∧ IsMap D ∧ ∀ s zd, D.atKey (.string s) zd = match f s with | none => zd | some z => .lit (.int .i64 z)
theorem zero_int (w : World) : (zeroValue 3).run Tryz.prog w = .ok (.int .i64 0) w := by kernel_rfl
theorem str_keyed : Go.Maps.Keyed Tryz.prog 9 := Go.Maps.string_keyed (by kernel_rfl)
theorem mapOf_new (w : World) : MapOf (w.alloc (.map #[] 0)) w.heap.size 0 (fun _ => none) := ⟨.map [], World.ownsMap_made w _ _ _, ⟨_, rfl⟩, fun _ _ => rfl⟩
theorem MapOf.lt {w : World} {b n : Nat} {f : List UInt8 → Option Int} (h : MapOf w b n f) : b < w.heap.size := by obtain ⟨D, h, _⟩ := h; exact h.lt
theorem MapOf.on {w w' : World} {b n : Nat} {f : List UInt8 → Option Int} (h : MapOf w b n f) (hb : Below w.heap.size w w') : MapOf w' b n f := by
  have hl := h.lt
  obtain ⟨D, ⟨es, clock, h1, h2⟩, h3⟩ := h
  exact ⟨D, ⟨es, clock, (hb.block b hl).trans h1, h2⟩, h3⟩
theorem mapOf_look {w : World} {b n : Nat} {f : List UInt8 → Option Int} (h : MapOf w b n f) (s : ByteArray) (hs : s.size ≤ maxLen) :
    (Instr.lookup 106 (.map (some b)) (.string s) true).run Tryz.prog w = .ok (match f s.data.toList with | none => .tuple #[.int .i64 0, .bool false] | some z => .tuple #[.int .i64 z, .bool true]) w := by
  obtain ⟨D, ⟨es, clock, hb, F, _, rfl⟩, _, hf⟩ := h
  have hkey := keyOf_string_mk (P := Tryz.prog) (k := 9) (by kernel_rfl) hs
  have hat := hf s.data.toList
  rcases Go.Maps.fit_look true str_keyed (t := 106) (e := 3) (z := .int .i64 0) (by kernel_rfl) (zero_int _) hb F hkey with ⟨hrun, _, h1⟩ | ⟨e0, y, _, _, hrun, hR, h1, _⟩
  · rw [hrun]
    cases hfs : f s.data.toList with
    | none => rfl
    | some z =>
      have h2 := hat (.lit (.int .i64 (z + 1)))
      rw [h1, hfs] at h2
      simp only [DataW.lit.injEq, Lit.int.injEq] at h2
      omega
  · rw [hrun]
    obtain ⟨a, e1, e2, _⟩ := plainElem_int_inv (P := Tryz.prog) (e := 3) (q := .i64) (by kernel_rfl) hR
    rw [e1]
    have h3 : y.1 = .lit (.int .i64 a) := by rw [e2]
    cases hfs : f s.data.toList with
    | none =>
      have h2 := hat (.lit (.int .i64 (a + 1)))
      rw [h1, hfs, h3] at h2
      simp only [DataW.lit.injEq, Lit.int.injEq] at h2
      omega
    | some z =>
      have h2 := hat (.lit (.int .i64 0))
      rw [h1, hfs, h3] at h2
      simp only [DataW.lit.injEq, Lit.int.injEq] at h2
      rw [h2.2]; rfl
theorem mapOf_hit {w : World} {b n : Nat} {f : List UInt8 → Option Int} (h : MapOf w b n f) (s : List UInt8) (hs : s.length ≤ maxLen) {z : Int} (hz : f s = some z) :
    (Instr.lookup 106 (.map (some b)) (.string ⟨s.toArray⟩) true).run Tryz.prog w = .ok (.tuple #[.int .i64 z, .bool true]) w := by
  have e : (⟨s.toArray⟩ : ByteArray).data.toList = s := rfl
  have h := mapOf_look h ⟨s.toArray⟩ (by simpa [ByteArray.size] using hs)
  rw [e, hz] at h
  exact h
theorem mapOf_miss {w : World} {b n : Nat} {f : List UInt8 → Option Int} (h : MapOf w b n f) (s : List UInt8) (hs : s.length ≤ maxLen) (hz : f s = none) :
    (Instr.lookup 106 (.map (some b)) (.string ⟨s.toArray⟩) true).run Tryz.prog w = .ok (.tuple #[.int .i64 0, .bool false]) w := by
  have e : (⟨s.toArray⟩ : ByteArray).data.toList = s := rfl
  have h := mapOf_look h ⟨s.toArray⟩ (by simpa [ByteArray.size] using hs)
  rw [e, hz] at h
  exact h
/-- What f says, but z at s. -/
def putF (f : List UInt8 → Option Int) (s : List UInt8) (z : Int) : List UInt8 → Option Int := fun x => if x = s then some z else f x
theorem mapOf_put {w : World} {b n : Nat} {f : List UInt8 → Option Int} (h : MapOf w b n f) (hn : n < maxLen) (s : ByteArray) (hs : s.size ≤ maxLen) (z : Int) (hz : (Lit.int .i64 z).wf = true) :
    ∃ w', (Instr.mapUpdate 106 (.map (some b)) (.string s) (.int .i64 z)).run Tryz.prog w = .ok () w' ∧ MapOf w' b (n + 1) (putF f s.data.toList z) ∧ w.grownBy w' (some b) := by
  obtain ⟨D, hD, hm, hf⟩ := h
  have hkey := keyOf_string_mk (P := Tryz.prog) (k := 9) (by kernel_rfl) hs
  obtain ⟨w', hrun, hown, hg⟩ := hD.update str_keyed (t := 106) (e := 3) (by kernel_rfl) hn (val := .int .i64 z) (d := .lit (.int .i64 z)) (ps := []) hkey (plainElem_int (by kernel_rfl) hz)
  refine ⟨w', hrun, ⟨_, hown, ?_, fun x zd => ?_⟩, hg⟩
  · obtain ⟨es, rfl⟩ := hm
    exact ⟨_, DataW.put_eq ..⟩
  · unfold putF
    by_cases hx : x = s.data.toList
    · rw [hx, if_pos rfl, Go.Maps.atKey_put_same hm (by trivial)]
    · rw [if_neg hx, Go.Maps.atKey_put_other (fun e => hx (by simpa using e)), hf]
end Go.Proofs.YtfihdbnecepmfaaGreatDoor

namespace Go.Proofs.YtfihdbnecepmfaaGreatDoor
open Go.RowKit
open PCheck (Bd bound)

end Go.Proofs.YtfihdbnecepmfaaGreatDoor

namespace Go.Proofs.YtfihdbnecepmfaaGreatDoor
open Go.RowKit
open PCheck (Xp Bd bound parts at0 Four)

/-- A row of kinds in a block of its own. -/
def RwK (w : World) (H N : Nat) (l : List Int) : Prop := l.length = N ∧ ∀ t, t < N → w.cell? ⟨H, t, none⟩ = some (.int .i64 (l.getD t 0)) ∧ w.frozen? ⟨H, t, none⟩ = false
theorem RwK.on {w w' : World} {H N : Nat} {l : List Int} (h : RwK w H N l) (hb : Below w.heap.size w w') : RwK w' H N l :=
  ⟨h.1, fun t ht => ⟨(hb.cell (World.block_lt_of_cell? w _ (h.2 t ht).1)).trans (h.2 t ht).1, (hb.frozen (p := ⟨H, t, none⟩) (World.block_lt_of_cell? w _ (h.2 t ht).1)).trans (h.2 t ht).2⟩⟩
theorem RwK.set {w : World} {H N : Nat} {l : List Int} (h : RwK w H N l) {t : Nat} (ht : t < N) (z : Int) : RwK (w.setCell ⟨H, t, none⟩ (.int .i64 z)) H N (l.set t z) := by
  refine ⟨by rw [List.length_set]; exact h.1, fun s hs => ⟨?_, by rw [box_frozen_set]; exact (h.2 s hs).2⟩⟩
  by_cases e : s = t
  · subst e
    rw [World.cell?_setCell_same _ _ _ (h.2 s hs).1]
    simp [List.getD, h.1, hs]
  · rw [World.cell?_setCell_other _ _ _ _ (by intro c; simp only [Addr.mk.injEq] at c; omega), (h.2 s hs).1]
    simp only [List.getD, List.getElem?_set_ne (Ne.symm e)]
theorem RwK.far {w : World} {H N : Nat} {l : List Int} (h : RwK w H N l) {p : Addr} (hp : p.block ≠ H) (v : Value) : RwK (w.setCell p v) H N l :=
  ⟨h.1, fun s hs => ⟨by rw [World.cell?_setCell_far _ _ _ _ hp]; exact (h.2 s hs).1, by rw [box_frozen_set]; exact (h.2 s hs).2⟩⟩
/-- What the three kinds are behind t rounds. -/
def ofV (ks P : List Int) (t : Nat) : List Value := [.int .i64 (if 0 < t then at0 ks P 0 else 0), .int .i64 (if 1 < t then at0 ks P 1 else 0), .int .i64 (if 2 < t then at0 ks P 2 else 0)]
/-- What is answered. -/
def KoAns (k : Int × Nat) (w : World) (e : Ending) (w' : World) : Prop := e = .returned (.tuple #[.int .i64 k.1, .int .i64 (k.2 : Int)]) ∧ Below w.heap.size w w'
end Go.Proofs.YtfihdbnecepmfaaGreatDoor

namespace Go.Proofs.YtfihdbnecepmfaaGreatDoor
open Go.RowKit
open PCheck (Xp Bd bound parts at0 Four madeF made kindsF told Fine)

theorem SlX.take {α : Type} {R : Rec α} {w : World} {A : Option Addr} {n k : Nat} {l : List α} (h : SlX R w A n l) (hk : k ≤ n) : SlX R w A k (l.take k) := by
  obtain ⟨h1, h2⟩ := h
  refine ⟨by rw [List.length_take]; omega, ?_⟩
  rcases h2 with h2 | ⟨b, off, h3, h4⟩
  · exact .inl (by omega)
  · exact .inr ⟨b, off, h3, fun i hi j v e => by
      have hi2 : i < k ∧ i < l.length := by rw [List.length_take] at hi; omega
      rw [List.getElem_take] at e
      exact h4 i hi2.2 j v e⟩
theorem RwB.far {w : World} {H N : Nat} {l : List Bool} (h : RwB w H N l) {p : Addr} (hp : p.block ≠ H) (v : Value) : RwB (w.setCell p v) H N l :=
  ⟨h.1, fun s hs => ⟨by rw [World.cell?_setCell_far _ _ _ _ hp]; exact (h.2 s hs).1, by rw [box_frozen_set]; exact (h.2 s hs).2⟩⟩
theorem MapOf.far {w : World} {b n : Nat} {f : List UInt8 → Option Int} (h : MapOf w b n f) {p : Addr} (hp : b ≠ p.block) (v : Value) : MapOf (w.setCell p v) b n f := by
  obtain ⟨D, ⟨es, clock, h1, h2⟩, h3⟩ := h
  exact ⟨D, ⟨es, clock, (Below.heap_setCell _ _ _ _ hp).trans h1, h2⟩, h3⟩
/-- What is answered. -/
def KdAns (F : Int × Nat × Nat) (w : World) (e : Ending) (w' : World) : Prop := e = .returned (.tuple #[.int .i64 F.1, .int .i64 (F.2.1 : Int), .int .i64 (F.2.2 : Int)]) ∧ Below w.heap.size w w'
end Go.Proofs.YtfihdbnecepmfaaGreatDoor
