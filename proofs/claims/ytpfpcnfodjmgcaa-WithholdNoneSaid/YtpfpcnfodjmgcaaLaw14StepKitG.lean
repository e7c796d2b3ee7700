/-
  WithholdStep: what its walk needs.
-/
import Derived.Test.YtpfpcnfodjmgcaaLaw14DueG
import Derived.Test.YtpfpcnfodjmgcaaLaw14SpecG
import Derived.Test.YtpfpcnfodjmgcaaStepAppend2G
import Derived.Deep.QuietTactic
import Derived.BigQuiet
namespace Go.Proofs.Ytpfpcnfodjmgcaa
open Go.RowKit

theorem w60_parts {V lyp lyo : List Int} {yx : Int} {np no : Nat} (hV : [yx] ++ lyp ++ lyo = V) (hp : lyp.length = np) (ho : lyo.length = no) (h : ∀ j, j < 1 + np + no → W60 (V.getD j 0)) : W60 yx ∧ W60L lyp ∧ W60L lyo := by
  subst hV
  refine ⟨?_, fun i hi => ?_, fun i hi => ?_⟩
  · have := h 0 (by omega)
    simpa [List.getD] using this
  · have := h (1 + i) (by omega)
    rw [show ([yx] ++ lyp ++ lyo) = yx :: (lyp ++ lyo) from rfl, Nat.add_comm] at this
    simpa [List.getD, List.getElem?_append_left hi] using this
  · have := h (1 + np + i) (by omega)
    rw [show ([yx] ++ lyp ++ lyo) = yx :: (lyp ++ lyo) from rfl, show 1 + np + i = (np + i) + 1 by omega] at this
    have e : (lyp ++ lyo)[np + i]? = lyo[i]? := by rw [List.getElem?_append_right (by omega)]; congr 1; omega
    simpa [List.getD, e] using this
theorem keepB3 {B : Nat} {w w' : World} {H i j k : Nat} {u v x : Value} (hb : Below B w w') (hH : H < B) (h : w.cell? ⟨H, i, none⟩ = some u ∧ w.cell? ⟨H, j, none⟩ = some v ∧ w.cell? ⟨H, k, none⟩ = some x) : w'.cell? ⟨H, i, none⟩ = some u ∧ w'.cell? ⟨H, j, none⟩ = some v ∧ w'.cell? ⟨H, k, none⟩ = some x :=
  ⟨(hb.cell (p := ⟨H, i, none⟩) hH).trans h.1, (hb.cell (p := ⟨H, j, none⟩) hH).trans h.2.1, (hb.cell (p := ⟨H, k, none⟩) hH).trans h.2.2⟩
theorem own_lit1 (w : World) (z : Int) : ((w.alloc (.cells #[.int .i64 z] 3)).drew).ownsRow w.heap.size 3 1 (.slice (some ⟨w.heap.size, 0, none⟩) 1 1) 1 (cellsOfInts [z]) := by
  have := World.ownsRow_lit (base := w.heap.size) (e := 3) (size := 1) w #[.int .i64 z] 1 (Nat.le_refl _) (by unfold maxLen; omega) (by simp)
  exact this

theorem in64_app {l m : List Int} (h : In64 l) (k : In64 m) : In64 (l ++ m) := by
  intro i hi
  rw [List.length_append] at hi
  by_cases e : i < l.length
  · have := h i e
    simpa [List.getD, List.getElem?_append_left e] using this
  · have := k (i - l.length) (by omega)
    simpa [List.getD, List.getElem?_append_right (Nat.le_of_not_lt e)] using this

theorem keep55 {w w' : World} {p0 p1 p2 p3 p4 q0 q1 q2 q3 q4 : Addr} {a b c d e a' b' c' d' e' : Value} (hb : Below w.heap.size w w') (h : (w.cell? p0 = some a ∧ w.cell? p1 = some b ∧ w.cell? p2 = some c ∧ w.cell? p3 = some d ∧ w.cell? p4 = some e) ∧ w.cell? q0 = some a' ∧ w.cell? q1 = some b' ∧ w.cell? q2 = some c' ∧ w.cell? q3 = some d' ∧ w.cell? q4 = some e') :
    (w'.cell? p0 = some a ∧ w'.cell? p1 = some b ∧ w'.cell? p2 = some c ∧ w'.cell? p3 = some d ∧ w'.cell? p4 = some e) ∧ w'.cell? q0 = some a' ∧ w'.cell? q1 = some b' ∧ w'.cell? q2 = some c' ∧ w'.cell? q3 = some d' ∧ w'.cell? q4 = some e' :=
  ⟨⟨keepc hb h.1.1, keepc hb h.1.2.1, keepc hb h.1.2.2.1, keepc hb h.1.2.2.2.1, keepc hb h.1.2.2.2.2⟩, keepc hb h.2.1, keepc hb h.2.2.1, keepc hb h.2.2.2.1, keepc hb h.2.2.2.2.1, keepc hb h.2.2.2.2.2⟩

theorem enter2d (w : World) (t t2 : TypeId) (vs zs : List Value) : Box (((w.alloc (.cells vs.toArray t)).alloc (.cells zs.toArray t2)).drew) w.heap.size vs ∧ Box (((w.alloc (.cells vs.toArray t)).alloc (.cells zs.toArray t2)).drew) (w.heap.size + 1) zs ∧ Below w.heap.size w (((w.alloc (.cells vs.toArray t)).alloc (.cells zs.toArray t2)).drew) := by
  obtain ⟨w1, h, h1, h2, hb, _⟩ := enter2 w t t2 vs zs
  rw [h]
  have bd : Below w1.heap.size w1 w1.drew := (Below.refl _ _).drew
  exact ⟨h1.on bd, h2.on bd, hb.drew⟩
theorem stp_no {a r : Nat → Int} {n m np no : Nat} {l : List PWh.Fund} {yt yb yx t b : Int} {lyp lyo : List Int} {s : Stp} (h : StpC14 a r n m l yt yb yx t b np no lyp lyo s) (hq : ¬ (PWh.Rt a r n l ∧ Near6 yt yb t b ∧ Fit np no m)) : ∃ e, e ≠ 0 ∧ s = stpZ e := by
  cases h with
  | wrong _ => exact ⟨1, by decide, rfl⟩
  | far _ _ => exact ⟨3, by decide, rfl⟩
  | lists _ _ _ => exact ⟨1, by decide, rfl⟩
  | yes h1 h2 h3 => exact absurd ⟨h1, h2, h3⟩ hq
theorem stp_yes {a r : Nat → Int} {n m np no : Nat} {l : List PWh.Fund} {yt yb yx t b : Int} {lyp lyo : List Int} {s : Stp} (h : StpC14 a r n m l yt yb yx t b np no lyp lyo s) (hq : PWh.Rt a r n l ∧ Near6 yt yb t b ∧ Fit np no m) : s = stpY a r n l yt yb yx t b lyp lyo := by
  cases h with
  | wrong h1 => exact absurd hq.1 h1
  | far _ h1 => exact absurd hq.2.1 h1
  | lists _ _ h1 => exact absurd hq.2.2 h1
  | yes _ _ _ => rfl


/-- What the reference says is due, its slices written out. -/
def DueR (t b : Int) (x : Nat) (lp lo : List Int) (w : World) (e : Ending) (w' : World) : Prop := ∃ P5 k5 P6 k6, e = .returned (.agg #[.int .i64 t, .int .i64 b, .int .i64 (x : Int), .slice P5 lp.length k5, .slice P6 lo.length k6]) ∧ VSl w' (.slice P5 lp.length k5) lp ∧ VSl w' (.slice P6 lo.length k6) lo ∧ Below w.heap.size w w' ∧ Fresh w (.slice P5 lp.length k5) ∧ Fresh w (.slice P6 lo.length k6)
theorem dueR_of {P : Program} {f : FuncId} {args : Array Value} {t b : Int} {x : Nat} {lp lo : List Int} {w : World} (h : Calls P f args w (YrR1 t b (x : Int) lp lo w)) : Calls P f args w (DueR t b x lp lo w) :=
  h.mono fun e w' ⟨p, o, he, v1, v2, hb, f1, f2⟩ => by
    have V1 := v1; have V2 := v2
    obtain ⟨P, cp, rfl, -, -, -⟩ := v1
    obtain ⟨O, co, rfl, -, -, -⟩ := v2
    exact ⟨P, cp, O, co, he, V1, V2, hb, f1, f2⟩

theorem keep22 {w w' : World} {p q p' q' : Addr} {u v u' v' : Value} (hb : Below w.heap.size w w') (h : (w.cell? p = some u ∧ w.cell? q = some v) ∧ w.cell? p' = some u' ∧ w.cell? q' = some v') :
    (w'.cell? p = some u ∧ w'.cell? q = some v) ∧ w'.cell? p' = some u' ∧ w'.cell? q' = some v' := ⟨⟨keepc hb h.1.1, keepc hb h.1.2⟩, keepc hb h.2.1, keepc hb h.2.2⟩
theorem ka22 {w : World} {o : Obj} {p q p' q' : Addr} {u v u' v' : Value} (h : (w.cell? p = some u ∧ w.cell? q = some v) ∧ w.cell? p' = some u' ∧ w.cell? q' = some v') :
    ((w.alloc o).cell? p = some u ∧ (w.alloc o).cell? q = some v) ∧ (w.alloc o).cell? p' = some u' ∧ (w.alloc o).cell? q' = some v' := keep22 ((Below.refl _ _).alloc (Nat.le_refl _) _) h
theorem keep22z {w w' : World} {o : Obj} {p q p' q' : Addr} {u v u' v' : Value} (hb : Below (w.alloc o).heap.size (w.alloc o) w') (h : (w.cell? p = some u ∧ w.cell? q = some v) ∧ w.cell? p' = some u' ∧ w.cell? q' = some v') :
    (w'.cell? p = some u ∧ w'.cell? q = some v) ∧ w'.cell? p' = some u' ∧ w'.cell? q' = some v' := keep22 hb (ka22 h)
theorem far22 {w : World} {G E Y i j i' j' : Nat} {a b c d e u v u' v' : Value} (h : (w.cell? ⟨E, i, none⟩ = some u ∧ w.cell? ⟨E, j, none⟩ = some v) ∧ w.cell? ⟨Y, i', none⟩ = some u' ∧ w.cell? ⟨Y, j', none⟩ = some v') (hE : E ≠ G) (hY : Y ≠ G) {w' : World}
    (hw : w' = (((((w.setCell ⟨G, 0, none⟩ a).setCell ⟨G, 1, none⟩ b).setCell ⟨G, 2, none⟩ c).setCell ⟨G, 3, none⟩ d).setCell ⟨G, 4, none⟩ e)) :
    (w'.cell? ⟨E, i, none⟩ = some u ∧ w'.cell? ⟨E, j, none⟩ = some v) ∧ w'.cell? ⟨Y, i', none⟩ = some u' ∧ w'.cell? ⟨Y, j', none⟩ = some v' := by
  subst hw
  exact ⟨⟨far5 hE h.1.1, far5 hE h.1.2⟩, far5 hY h.2.1, far5 hY h.2.2⟩

/-- Four blocks of five cells. -/
abbrev K4 (w : World) (G K D Y : Nat) (a b c d e a1 b1 c1 d1 e1 a2 b2 c2 d2 e2 a3 b3 c3 d3 e3 : Value) : Prop :=
  (w.cell? ⟨G, 0, none⟩ = some a ∧ w.cell? ⟨G, 1, none⟩ = some b ∧ w.cell? ⟨G, 2, none⟩ = some c ∧ w.cell? ⟨G, 3, none⟩ = some d ∧ w.cell? ⟨G, 4, none⟩ = some e) ∧ (w.cell? ⟨K, 0, none⟩ = some a1 ∧ w.cell? ⟨K, 1, none⟩ = some b1 ∧ w.cell? ⟨K, 2, none⟩ = some c1 ∧ w.cell? ⟨K, 3, none⟩ = some d1 ∧ w.cell? ⟨K, 4, none⟩ = some e1) ∧ (w.cell? ⟨D, 0, none⟩ = some a2 ∧ w.cell? ⟨D, 1, none⟩ = some b2 ∧ w.cell? ⟨D, 2, none⟩ = some c2 ∧ w.cell? ⟨D, 3, none⟩ = some d2 ∧ w.cell? ⟨D, 4, none⟩ = some e2) ∧ w.cell? ⟨Y, 0, none⟩ = some a3 ∧ w.cell? ⟨Y, 1, none⟩ = some b3 ∧ w.cell? ⟨Y, 2, none⟩ = some c3 ∧ w.cell? ⟨Y, 3, none⟩ = some d3 ∧ w.cell? ⟨Y, 4, none⟩ = some e3
theorem K4.on {w w' : World} {G K D Y : Nat} {a b c d e a1 b1 c1 d1 e1 a2 b2 c2 d2 e2 a3 b3 c3 d3 e3 : Value} (h : K4 w G K D Y a b c d e a1 b1 c1 d1 e1 a2 b2 c2 d2 e2 a3 b3 c3 d3 e3) (hb : Below w.heap.size w w') : K4 w' G K D Y a b c d e a1 b1 c1 d1 e1 a2 b2 c2 d2 e2 a3 b3 c3 d3 e3 := by
  obtain ⟨⟨h1, h2, h3, h4, h5⟩, ⟨k1, k2, k3, k4, k5⟩, ⟨l1, l2, l3, l4, l5⟩, m1, m2, m3, m4, m5⟩ := h
  exact ⟨⟨keepc hb h1, keepc hb h2, keepc hb h3, keepc hb h4, keepc hb h5⟩, ⟨keepc hb k1, keepc hb k2, keepc hb k3, keepc hb k4, keepc hb k5⟩, ⟨keepc hb l1, keepc hb l2, keepc hb l3, keepc hb l4, keepc hb l5⟩, keepc hb m1, keepc hb m2, keepc hb m3, keepc hb m4, keepc hb m5⟩
end Go.Proofs.Ytpfpcnfodjmgcaa
