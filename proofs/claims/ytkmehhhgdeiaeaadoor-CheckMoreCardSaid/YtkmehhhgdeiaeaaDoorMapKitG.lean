/-
  A map of the call's own from texts to ints: what it holds, by a function; a look-up, and what is put.
-/
import Derived.Test.YtkmehhhgdeiaeaaDoorBase
import Derived.Maps.Own
import Derived.Maps.Views
import Derived.StringKeys
namespace Go.Proofs.YtkmehhhgdeiaeaaDoor
open Go.RowKit
open Go.Maps (IsMap)
open Go.WideMaps (keyOf_string_mk)

abbrev mapK (w : World) (b n : Nat) (D : DataW Unit) : Prop := w.ownsMap Tryd.prog 9 (plainElem Tryd.prog 3) b n D
/-- Block b is a map that holds what f says, at most n texts. -/
def MapOf (w : World) (b n : Nat) (f : List UInt8 → Option Int) : Prop := ∃ D : DataW Unit, mapK w b n D ∧ IsMap D ∧ ∀ s zd, D.atKey (.string s) zd = match f s with | none => zd | some z => .lit (.int .i64 z)
theorem zero_int (w : World) : (zeroValue 3).run Tryd.prog w = .ok (.int .i64 0) w := by kernel_rfl
theorem str_keyed : Go.Maps.Keyed Tryd.prog 9 := Go.Maps.string_keyed (by kernel_rfl)
theorem mapOf_new (w : World) : MapOf (w.alloc (.map #[] 0)) w.heap.size 0 (fun _ => none) := ⟨.map [], World.ownsMap_made w _ _ _, ⟨_, rfl⟩, fun _ _ => rfl⟩
theorem MapOf.lt {w : World} {b n : Nat} {f : List UInt8 → Option Int} (h : MapOf w b n f) : b < w.heap.size := by obtain ⟨D, h, _⟩ := h; exact h.lt
theorem MapOf.on {w w' : World} {b n : Nat} {f : List UInt8 → Option Int} (h : MapOf w b n f) (hb : Below w.heap.size w w') : MapOf w' b n f := by
  have hl := h.lt
  obtain ⟨D, ⟨es, clock, h1, h2⟩, h3⟩ := h
  exact ⟨D, ⟨es, clock, (hb.block b hl).trans h1, h2⟩, h3⟩
theorem mapOf_look {w : World} {b n : Nat} {f : List UInt8 → Option Int} (h : MapOf w b n f) (s : ByteArray) (hs : s.size ≤ maxLen) :
    (Instr.lookup 60 (.map (some b)) (.string s) true).run Tryd.prog w = .ok (match f s.data.toList with | none => .tuple #[.int .i64 0, .bool false] | some z => .tuple #[.int .i64 z, .bool true]) w := by
  obtain ⟨D, ⟨es, clock, hb, F, _, rfl⟩, _, hf⟩ := h
  have hkey := keyOf_string_mk (P := Tryd.prog) (k := 9) (by kernel_rfl) hs
  have hat := hf s.data.toList
  rcases Go.Maps.fit_look true str_keyed (t := 60) (e := 3) (z := .int .i64 0) (by kernel_rfl) (zero_int _) hb F hkey with ⟨hrun, _, h1⟩ | ⟨e0, y, _, _, hrun, hR, h1, _⟩
  · rw [hrun]
    cases hfs : f s.data.toList with
    | none => rfl
    | some z =>
      have h2 := hat (.lit (.int .i64 (z + 1)))
      rw [h1, hfs] at h2
      simp only [DataW.lit.injEq, Lit.int.injEq] at h2
      omega
  · rw [hrun]
    obtain ⟨a, e1, e2, _⟩ := plainElem_int_inv (P := Tryd.prog) (e := 3) (q := .i64) (by kernel_rfl) hR
    rw [e1]
    have h3 : y.1 = .lit (.int .i64 a) := by rw [e2]
    cases hfs : f s.data.toList with
    | none =>
      have h2 := hat (.lit (.int .i64 (a + 1)))
      rw [h1, hfs, h3] at h2
      simp only [DataW.lit.injEq, Lit.int.injEq] at h2
      omega
    | some z =>
      have h2 := hat (.lit (.int .i64 0))
      rw [h1, hfs, h3] at h2
      simp only [DataW.lit.injEq, Lit.int.injEq] at h2
      rw [h2.2]; rfl
theorem mapOf_hit {w : World} {b n : Nat} {f : List UInt8 → Option Int} (h : MapOf w b n f) (s : List UInt8) (hs : s.length ≤ maxLen) {z : Int} (hz : f s = some z) :
    (Instr.lookup 60 (.map (some b)) (.string ⟨s.toArray⟩) true).run Tryd.prog w = .ok (.tuple #[.int .i64 z, .bool true]) w := by
  have e : (⟨s.toArray⟩ : ByteArray).data.toList = s := rfl
  have h := mapOf_look h ⟨s.toArray⟩ (by simpa [ByteArray.size] using hs)
  rw [e, hz] at h
  exact h
theorem mapOf_miss {w : World} {b n : Nat} {f : List UInt8 → Option Int} (h : MapOf w b n f) (s : List UInt8) (hs : s.length ≤ maxLen) (hz : f s = none) :
    (Instr.lookup 60 (.map (some b)) (.string ⟨s.toArray⟩) true).run Tryd.prog w = .ok (.tuple #[.int .i64 0, .bool false]) w := by
  have e : (⟨s.toArray⟩ : ByteArray).data.toList = s := rfl
  have h := mapOf_look h ⟨s.toArray⟩ (by simpa [ByteArray.size] using hs)
  rw [e, hz] at h
  exact h
/-- What f says, but z at s. -/
def putF (f : List UInt8 → Option Int) (s : List UInt8) (z : Int) : List UInt8 → Option Int := fun x => if x = s then some z else f x
theorem mapOf_put {w : World} {b n : Nat} {f : List UInt8 → Option Int} (h : MapOf w b n f) (hn : n < maxLen) (s : ByteArray) (hs : s.size ≤ maxLen) (z : Int) (hz : (Lit.int .i64 z).wf = true) :
    ∃ w', (Instr.mapUpdate 60 (.map (some b)) (.string s) (.int .i64 z)).run Tryd.prog w = .ok () w' ∧ MapOf w' b (n + 1) (putF f s.data.toList z) ∧ w.grownBy w' (some b) := by
  obtain ⟨D, hD, hm, hf⟩ := h
  have hkey := keyOf_string_mk (P := Tryd.prog) (k := 9) (by kernel_rfl) hs
  obtain ⟨w', hrun, hown, hg⟩ := hD.update str_keyed (t := 60) (e := 3) (by kernel_rfl) hn (val := .int .i64 z) (d := .lit (.int .i64 z)) (ps := []) hkey (plainElem_int (by kernel_rfl) hz)
  refine ⟨w', hrun, ⟨_, hown, ?_, fun x zd => ?_⟩, hg⟩
  · obtain ⟨es, rfl⟩ := hm
    exact ⟨_, DataW.put_eq ..⟩
  · unfold putF
    by_cases hx : x = s.data.toList
    · rw [hx, if_pos rfl, Go.Maps.atKey_put_same hm (by trivial)]
    · rw [if_neg hx, Go.Maps.atKey_put_other (fun e => hx (by simpa using e)), hf]
end Go.Proofs.YtkmehhhgdeiaeaaDoor
