/-
  What the landed show answers: the pieces of an expression that has no parts.
-/
import Derived.Test.YtdkcdgjpcojdfaaGreatDoorShowLeafG
import Derived.Test.YtdkcdgjpcojdfaaGreatDoorSM
import Derived.Test.YtdkcdgjpcojdfaaGreatDoorKT

set_option linter.unusedVariables false
namespace Go.Proofs.YtdkcdgjpcojdfaaGreatDoor
open Go.RowKit
open PCheck (Xp)
open PShow (Pc)

def pcC (x : Pc) : List Value := [.string ⟨x.1.toArray⟩, .int .i64 x.2]
def pcR : Rec Pc := ⟨pcC, 2, by decide, fun _ => rfl, fun x u hu => by simp [pcC] at hu; rcases hu with rfl | rfl <;> rfl⟩
theorem show_pcTy : RecTy pcR 174 175 24 where
  info := ⟨.agg #[.string ⟨#[]⟩, .int .i64 0], by kernel_rfl, by rfl⟩
  under := by kernel_rfl
  few := by decide
def prt (op : List UInt8) : List (List UInt8 × Nat) := match PShow.formOf op with | none => [] | some f => f.parts
def fnn (op : List UInt8) : List UInt8 := match PShow.formOf op with | none => [] | some f => f.fin
theorem pieces_un (g : Int → Nat) (x : Xp) : PShow.pieces g x = if prt x.op = [] then [(PShow.leafTx x, -1)] else PShow.pcs g (prt x.op) (PShow.places x) ++ [(fnn x.op, -1)] := by
  unfold PShow.pieces prt fnn
  cases PShow.formOf x.op with
  | none => rfl
  | some f => rfl
theorem prt_few (op : List UInt8) : (prt op).length ≤ 3 := by
  unfold prt
  cases h : PShow.formOf op with
  | none => exact Nat.zero_le _
  | some f => exact PShow.form_few h
def FormUn (op : List UInt8) (w : World) (e : Ending) (w' : World) : Prop :=
  ∃ P c, ∃ ok : Bool, e = .returned (.tuple #[.agg #[.int .i64 (PShow.rk op : Nat), .slice P (prt op).length c, .string ⟨(fnn op).toArray⟩], .bool ok]) ∧ (∀ a, P = some a → w.heap.size ≤ a.block) ∧ SlX slotR w' P (prt op).length (prt op) ∧ Below w.heap.size w w'
theorem kform_un (op : List UInt8) (w : World) : Calls Tryz.prog 84 #[.string ⟨op.toArray⟩] w (FormUn op w) := by
  refine (kform_any op w).mono ?_
  rintro e w' ⟨hb, h⟩
  unfold FormUn prt fnn PShow.rk
  cases hf : PShow.formOf op with
  | none =>
    rw [hf] at h
    exact ⟨none, 0, false, h, (fun a h => by cases h), slr_nil _ _ _, hb⟩
  | some f =>
    rw [hf] at h
    obtain ⟨P, c, h1, h2, h3⟩ := h
    exact ⟨P, c, true, h1, h2, h3, hb⟩
theorem own_built {α : Type} (R : Rec α) (w : World) (e : TypeId) (l : List α) {base : Nat} (hb : base ≤ w.heap.size) (hm : l.length ≤ maxLen) :
    (w.alloc (.cells (R.cells l).toArray e)).ownsRow base e R.k (.slice (some ⟨w.heap.size, 0, none⟩) l.length l.length) l.length (R.cells l) :=
  ⟨R.cells_len l, .inr ⟨w.heap.size, l.length, (R.cells l).toArray, rfl, hb, heap_alloc_new w _, Nat.le_refl _, hm, by rw [List.size_toArray]; exact R.cells_len l, by rw [List.take_of_length_le (by rw [R.cells_len]; exact Nat.le_refl _)]⟩⟩
def PcAns (l : List Pc) (w : World) (e : Ending) (w' : World) : Prop := ∃ v, e = .returned v ∧ w'.ownsRow w.heap.size 174 2 v l.length (pcR.cells l) ∧ Below w.heap.size w w'
set_option maxHeartbeats 3200000 in
set_option maxRecDepth 100000 in
theorem kpieces_leaf {w : World} {A : Option Addr} {n c k : Nat} {E : List Xp} {x : Xp} (hE : SlX xpR w A n E) (hx : E[k]? = some x) (ht : Tab w) (h0 : -9223372036854775808 ≤ x.value) (h1 : x.value ≤ 9223372036854775807) (hp : prt x.op = []) :
    Calls Tryz.prog 108 #[.slice A n c, .int .i64 (k : Nat)] w (PcAns [(PShow.leafTx x, -1)] w) := by
  obtain ⟨Q, hQ⟩ : ∃ Q, PcAns [(PShow.leafTx x, -1)] w = Q := ⟨_, rfl⟩
  rw [hQ]
  obtain ⟨hk, hxk⟩ := List.getElem?_eq_some_iff.1 hx
  have hn : E.length = n := hE.1
  obtain ⟨ab, ao, rfl, hc⟩ := hE.at (i := k) (by omega)
  have hcx := hc k hk
  rw [hxk] at hcx
  have kn : k < n := by omega
  have HL := Lib.hid (fun (wa : World) (h : Tab wa) => kleaf_any x wa h h0 h1)
  have HF := Lib.hid (fun (wa : World) => kform_un x.op wa)
  obtain ⟨Lt, hLt⟩ : ∃ Lt, PShow.leafTx x = Lt := ⟨_, rfl⟩
  obtain ⟨rkx, hrk⟩ : ∃ r, PShow.rk x.op = r := ⟨_, rfl⟩
  obtain ⟨fx, hfx⟩ : ∃ r, fnn x.op = r := ⟨_, rfl⟩
  unfold FormUn at HF
  rw [hrk, hfx, hp] at HF
  rw [hLt] at HL hQ
  obtain ⟨op, nm, vl, ya, yb, yc⟩ := x
  simp only [xpC, List.length_nil] at HL HF
  have l0 : w.cell? ⟨ab, ao + k * 6, none⟩ = some (.string ⟨op.toArray⟩) := hcx 0 _ rfl
  have l1 : w.cell? ⟨ab, ao + k * 6 + 1, none⟩ = some (.string ⟨nm.toArray⟩) := hcx 1 _ rfl
  have l2 : w.cell? ⟨ab, ao + k * 6 + 2, none⟩ = some (.int .i64 vl) := hcx 2 _ rfl
  have l3 : w.cell? ⟨ab, ao + k * 6 + 3, none⟩ = some (.int .i64 ya) := hcx 3 _ rfl
  have l4 : w.cell? ⟨ab, ao + k * 6 + 4, none⟩ = some (.int .i64 yb) := hcx 4 _ rfl
  have l5 : w.cell? ⟨ab, ao + k * 6 + 5, none⟩ = some (.int .i64 yc) := hcx 5 _ rfl
  obtain ⟨w1, hw1, RB, b1⟩ : ∃ w1, w.alloc (.cells #[.string { data := #[] }, .string { data := #[] }, .int .i64 0, .int .i64 0, .int .i64 0, .int .i64 0] 58) = w1 ∧ Box w1 w.heap.size [.string { data := #[] }, .string { data := #[] }, .int .i64 0, .int .i64 0, .int .i64 0, .int .i64 0] ∧ Below w.heap.size w w1 := ⟨_, rfl, Box.new _ _ [.string { data := #[] }, .string { data := #[] }, .int .i64 0, .int .i64 0, .int .i64 0, .int .i64 0], (Below.refl _ _).alloc (Nat.le_refl _) _⟩
  obtain ⟨w2, hw2, X2, ON⟩ := store6 RB (.string ⟨op.toArray⟩) (.string ⟨nm.toArray⟩) (.int .i64 vl) (.int .i64 ya) (.int .i64 yb) (.int .i64 yc)
  have B2 : Below w.heap.size w w2 := ON.below (Nat.le_refl _) b1
  have HX2 := Lib.hid X2; have HB2 := Lib.hid B2
  obtain ⟨x0, x1, x2, x3, x4, x5⟩ := box6 X2
  have hsx := X2.1
  have T2 := Lib.hid (ht.on B2)
  have FIN : Hid (∀ v w', w'.ownsRow w.heap.size 174 2 v 1 (pcR.cells [(Lt, -1)]) → Below w.heap.size w w' → Q (.returned v) w') := Lib.hid (fun v w' a b => by rw [← hQ]; exact ⟨v, rfl, a, b⟩)
  have r6 := box6f RB
  obtain ⟨r0, r1, r2, r3, r4, r5⟩ := r6
  obtain ⟨q0, q1, q2, q3, q4, q5⟩ := box6 RB
  have hsr := RB.1
  have HW1 := Lib.hid hw1; have HW2 := Lib.hid hw2
  clear hE hx hcx hc hxk hp hLt hQ h0 h1 hrk hfx RB ON b1 X2 B2 hw2
  go_enter Tryz.func108, Tryz.ntmps108
  go_upto_region 2 with fail
  rw [HW2.out]
  clear HW1 HW2 hw1 r0 r1 r2 r3 r4 r5 q0 q1 q2 q3 q4 q5 hsr
  go_wp2_with (go_at_call 84; refine (HF.out _).mono ?_)
  rintro _ w3 ⟨P, fc, ok, rfl, hP, -, b3⟩
  have C3 := Lib.hid (HB2.out.trans (b3.mono (by have := HB2.out.size; omega)))
  have X3 := HX2.out.on b3
  have T3 := T2.out.on b3
  obtain ⟨w4, hw4, RB, b4⟩ : ∃ w4, w3.alloc (.cells #[.int .i64 0, .slice none 0 0, .string { data := #[] }] 142) = w4 ∧ Box w4 w3.heap.size [.int .i64 0, .slice none 0 0, .string { data := #[] }] ∧ Below w3.heap.size w3 w4 := ⟨_, rfl, Box.new _ _ [.int .i64 0, .slice none 0 0, .string { data := #[] }], (Below.refl _ _).alloc (Nat.le_refl _) _⟩
  obtain ⟨w5, hw5, R5, ON⟩ := st3x RB (.int .i64 (rkx : Nat)) (.slice P 0 fc) (.string ⟨fx.toArray⟩)
  have b5 : Below w3.heap.size w3 w5 := ON.below (Nat.le_refl _) b4
  have C5 := Lib.hid (C3.out.trans (b5.mono (by have := C3.out.size; omega)))
  have T5 := Lib.hid (T3.on b5)
  have HX5 := Lib.hid (X3.on b5)
  obtain ⟨r0, r1, r2⟩ := bx3 RB
  obtain ⟨f0, f1, f2⟩ := bx3f RB
  obtain ⟨q0, q1, q2⟩ := bx3 R5
  have hsr := RB.1
  have hsq := R5.1
  have HW5 := Lib.hid hw5
  clear hw5 RB R5 ON b3 b4 b5 X3 T3 x0 x1 x2 x3 x4 x5 HX2 HB2 T2 hP hsx
  go_upto_region 3 with fail
  rw [HW5.out]
  clear HW5 hw4 r0 r1 r2 f0 f1 f2 hsr
  obtain ⟨x0, x1, x2, x3, x4, x5⟩ := box6 HX5.out
  have hsx := HX5.out.1
  go_wp2_with (go_at_call 120; refine (HL.out _ T5.out).mono ?_)
  rintro _ w6 ⟨rfl, b6⟩
  go_wp2_with fail
  have C6 := C5.out.trans (b6.mono (by have := C5.out.size; omega))
  refine FIN.out _ _ ?_ (C6.alloc (by have := C6.size; omega) _)
  exact own_built pcR w6 174 [(Lt, -1)] (by have := C6.size; omega) (show 1 ≤ maxLen by decide)
end Go.Proofs.YtdkcdgjpcojdfaaGreatDoor
