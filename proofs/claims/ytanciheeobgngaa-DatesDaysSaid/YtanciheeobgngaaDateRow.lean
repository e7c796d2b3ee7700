/-
  A date that came in, a struct of three ints: what its cells hold.
-/
import Derived.Test.YtanciheeobgngaaDateKit
import Derived.Test.YtanciheeobgngaaRows
import Derived.WalkKit
import Derived.Deep.Strs
namespace Go.Proofs.Ytanciheeobgngaa
open Go.ChangeShapes Go.WideShapes Go.ChangeAt Go.RowKit

theorem cells_date : Program.cellsOf Try.prog 23 = 3 := by kernel_rfl
theorem cells_int : Program.cellsOf Try.prog 3 = 1 := by kernel_rfl
theorem open_date {H : Type} {enc : TypeId × Value → H} {w : World} {base base2 : Nat} {spare : Nat → Bool} {held : Bool} {v : Value} {d : DataW H} {p : List MemPlace}
    (hval : Value.okWide Try.prog w .any base2 23 v) (h : DataW.Trod enc Try.prog w base spare held 23 v d p) :
    ∃ y m x, v = reD y m x ∧ d = .agg [.lit (.int .i64 y), .lit (.int .i64 m), .lit (.int .i64 x)] ∧ p = [] ∧ (Lit.int .i64 y).wf = true ∧ (Lit.int .i64 m).wf = true ∧ (Lit.int .i64 x).wf = true := by
  obtain ⟨cs, rfl, hsz⟩ := okWide_struct Try.underlying23 hval
  obtain ⟨fuel, hf⟩ := h
  obtain ⟨y0, y1, y2, n, hx, hl, h0, h1, h2⟩ := Go.Deep.trod_struct3 Try.underlying23 hf
  simp only [cells_int] at h0 h1 h2
  obtain ⟨a, e0, e0', w0⟩ := DataW.trod_int Try.underlying3 h0
  obtain ⟨b, e1, e1', w1⟩ := DataW.trod_int Try.underlying3 h1
  obtain ⟨c, e2, e2', w2⟩ := DataW.trod_int Try.underlying3 h2
  rw [cells_date] at hsz hl
  have hcs : (Value.agg cs).cells = cs := by simp [Value.cells]
  rw [hcs] at e0 e1 e2
  obtain ⟨l⟩ := cs
  simp only [List.size_toArray] at hsz
  match l, hsz with
  | [u, v, x], _ =>
    simp at e0 e1 e2
    subst e0; subst e1; subst e2
    rw [e0', e1', e2'] at hx
    simp at hx
    exact ⟨a, b, c, rfl, hx.1, hx.2, w0, w1, w2⟩
theorem shut_date {H : Type} {enc : TypeId × Value → H} {w : World} {base : Nat} {spare : Nat → Bool} {held : Bool} {y m x : Int} (w0 : (Lit.int .i64 y).wf = true) (w1 : (Lit.int .i64 m).wf = true) (w2 : (Lit.int .i64 x).wf = true) :
    DataW.Trod enc Try.prog w base spare held 23 (reD y m x) (.agg [.lit (.int .i64 y), .lit (.int .i64 m), .lit (.int .i64 x)]) [] := by
  have h0 := fun (z : Int) (hz : (Lit.int .i64 z).wf = true) => trod_int_mk (enc := enc) (P := Try.prog) (w := w) (base := base) (spare := spare) (held := held) 0 Try.underlying3 hz
  refine ⟨2, ?_⟩
  have := Go.Deep.trod_struct3_mk (enc := enc) (P := Try.prog) (w := w) (base := base) (spare := spare) (held := held) (n := 1) (cs := [.int .i64 y, .int .i64 m, .int .i64 x]) Try.underlying23 (by rw [cells_date]; rfl)
    (by simp only [cells_int]; exact h0 y w0) (by simp only [cells_int]; exact h0 m w1) (by simp only [cells_int]; exact h0 x w2)
  simpa [reD, Value.cells] using this
end Go.Proofs.Ytanciheeobgngaa
