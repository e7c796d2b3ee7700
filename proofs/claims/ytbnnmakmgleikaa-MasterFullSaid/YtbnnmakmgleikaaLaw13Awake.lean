/-
  The law's own fixed answer.
-/
import Derived.Test.YtbnnmakmgleikaaMaChange
import Derived.Test.YtbnnmakmgleikaaMaClaim
import Derived.Test.YtbnnmakmgleikaaMaFine
set_option linter.unusedVariables false
set_option linter.unusedSimpArgs false
namespace Go.Proofs.Ytbnnmakmgleikaa
open Go.RowKit

theorem one_box (w : World) (v : Value) (t : TypeId) : ∃ w', w.alloc (.cells #[v] t) = w' ∧ Box w' w.heap.size [v] ∧ Below w.heap.size w w' :=
  ⟨_, rfl, Box.new _ _ [v], (Below.refl _ _).alloc (Nat.le_refl _) _⟩
theorem seven_box (w : World) (a b c d e f g : Value) (t : TypeId) : ∃ w', w.alloc (.cells #[a, b, c, d, e, f, g] t) = w' ∧ Box w' w.heap.size [a, b, c, d, e, f, g] ∧ Below w.heap.size w w' :=
  ⟨_, rfl, Box.new _ _ [a, b, c, d, e, f, g], (Below.refl _ _).alloc (Nat.le_refl _) _⟩
theorem MaI.small {w : World} {A : Option Addr} {n c k : Nat} {M : List PMa.Per} (h : MaI w A n c M) (hf : PMa.Few k M) : n ≤ 50 := by
  have := h.s.len; have := hf.len; omega
theorem few_small {k : Nat} {M : List PMa.Per} (hf : PMa.Few k M) (hk : k ≤ 80000) : MaSmall M := fun p hp => ⟨Nat.le_trans (hf.recs p hp) hk, by have := hf.ords p hp; omega⟩
/-- A master stands behind a store into a variable that holds a master. -/
theorem MaI.store {w w' : World} {H : Nat} {A A' : Option Addr} {n c n' c' : Nat} {M : List PMa.Per} (h : MaI w A n c M) (X : Box w H [.slice A' n' c']) (ho : Only H w w') : MaI w' A n c M := by
  obtain ⟨⟨rs, hS, hO⟩, h1, h2, h3⟩ := h
  refine ⟨⟨rs, SlX.only hS ho (fun b o e hn => ?_), ⟨hO.len, fun i r p hr hp => ?_⟩⟩, h1, h2, h3⟩
  · subst e
    obtain ⟨r, hr⟩ : ∃ r, rs[0]? = some r := ⟨_, List.getElem?_eq_getElem (by rw [hS.1]; omega)⟩
    exact X.apart (raw_cell hS (i := 0) (by omega) hr).1 (by simp)
  · have k := hO.at_ i r p hr hp
    refine ⟨k.id, k.hired, k.gone, SlX.only k.recs ho (fun b o e hn => ?_), SlX.only k.ords ho (fun b o e hn => ?_), k.a0, k.b0, k.ac, k.bd, k.cm, k.dm⟩
    · have S := k.recs
      rw [e] at S
      obtain ⟨x, hx⟩ : ∃ x, p.recs[0]? = some x := ⟨_, List.getElem?_eq_getElem (by rw [S.1]; omega)⟩
      exact X.apart (rcd_cell S (i := 0) (by omega) hx).1 (by simp)
    · have S := k.ords
      rw [e] at S
      obtain ⟨x, hx⟩ : ∃ x, p.ords[0]? = some x := ⟨_, List.getElem?_eq_getElem (by rw [S.1]; omega)⟩
      exact X.apart (ord_cell S (i := 0) (by omega) hx).1 (by simp)
def awR1 : PMa.Rcd := ⟨24276, 1, 100, 0, 0, 0, false⟩
def awR2 : PMa.Rcd := ⟨24278, 2, 200, 0, 0, 0, false⟩
def awR3 : PMa.Rcd := ⟨24276, 0, 0, 0, 0, 0, false⟩
def awM1 : List PMa.Per := [⟨7, 24276, 0, [awR1], []⟩]
def awM2 : List PMa.Per := [⟨7, 24276, 0, [awR1, awR2], []⟩]
theorem aw_hire : PMa.hire [] 7 awR1 = (awM1, 0) := by decide
theorem aw_change : PMa.change awM1 7 awR2 = (awM2, 0) := by decide
theorem aw_at : PMa.at_ awM2 7 24277 = (awR1, 0) := by decide
theorem aw_again : PMa.hire awM2 7 awR3 = (awM2, 6) := by decide
theorem aw_staff : PMa.staff awM2 24276 = [7] := by decide
theorem aw_fine1 : PMa.Fine awM1 := by have := PMa.fine_hire PMa.Fine.nil 7 awR1; rw [aw_hire] at this; exact this
theorem aw_few1 : PMa.Few 1 awM1 := by have := PMa.few_hire (PMa.Few.nil 1) (Nat.le_refl 1) 7 awR1; rw [aw_hire] at this; exact this
theorem aw_fine2 : PMa.Fine awM2 := by have := PMa.fine_change aw_fine1 7 awR2; rw [aw_change] at this; exact this
theorem aw_few2 : PMa.Few 2 awM2 := by have := PMa.few_change aw_few1 7 awR2; rw [aw_change] at this; exact this
set_option maxRecDepth 100000 in
set_option maxHeartbeats 12800000 in
theorem aw13_any (w : World) : Calls Try.prog 8 #[] w (FlagM true w) := by
  obtain ⟨Q, hQ⟩ : ∃ Q, FlagM true w = Q := ⟨_, rfl⟩
  rw [hQ]
  have FIN : Hid (∀ w', Below w.heap.size w w' → Q (.returned (.bool true)) w') := Lib.hid (fun w' a => by rw [← hQ]; exact ⟨rfl, a⟩)
  have C1 := khire_any (maI_nil w) PMa.Fine.nil (by omega) 7 awR1
  rw [aw_hire] at C1
  have C1 := Lib.hid C1
  clear hQ
  go_enter Try.func8, Try.ntmps8
  go_wp2_with (go_at_call 15; refine C1.out.mono ?_)
  intro e1 w1 h1
  obtain ⟨A1, n1, c1, rfl, I1, b1⟩ := h1
  obtain ⟨w2, hw2, X2, b2⟩ := one_box w1 (.slice A1 n1 c1) 26
  have B2 := Lib.hid (below_step b1 b2)
  have HB1 := Lib.hid b1.size
  have C2 := kchange_any (I1.on b2) aw_fine1 (by have := I1.small aw_few1; omega) (fun p hp => (few_small aw_few1 (by omega) p hp).1) 7 awR2
  rw [aw_change] at C2
  have C2 := Lib.hid C2
  have y0 := b1m X2; have hsx := X2.1
  have HW2 := Lib.hid hw2; have HX2 := Lib.hid X2
  clear C1 I1 b1 b2 hw2 X2
  go_upto_region 2 with fail
  rw [HW2.out]
  clear HW2
  go_wp2_with (go_at_call 18; refine C2.out.mono ?_)
  intro e3 w3 h3
  obtain ⟨A3, n3, c3, rfl, I3, b3⟩ := h3
  have X3 := HX2.out.on b3
  obtain ⟨w4, hw4, X4, ON4⟩ := set1 X3 (.slice A3 n3 c3)
  have hbw : w.heap.size ≤ w1.heap.size := HB1.out
  have B4 := Lib.hid (ON4.below hbw (below_step B2.out b3))
  have I4 := I3.store X3 ON4
  have C5 := kat_any I4 aw_fine2 (few_small aw_few2 (by omega)) (by have := I4.small aw_few2; omega) 7 24277
  rw [aw_at] at C5
  have C5 := Lib.hid C5
  have HI4 := Lib.hid I4
  have y0 := b1m X3; have yf := b1f X3; have hsx := X3.1
  have z0 := b1m X4; have hsz := X4.1
  have HW4 := Lib.hid hw4; have HX4 := Lib.hid X4
  clear C2 I3 I4 b3 hw4 X3 X4 ON4
  go_upto_region 3 with fail
  rw [HW4.out]
  clear HW4 y0 yf hsx
  go_wp2_with (go_at_call 13; refine C5.out.mono ?_)
  intro e5 w5 h5
  obtain ⟨rfl, b5⟩ := h5
  obtain ⟨w6, hw6, X6, b6⟩ := seven_box w5 (.int .i64 24276) (.int .i64 1) (.int .i64 100) (.int .i64 0) (.int .i64 0) (.int .i64 0) (.bool false) 47
  have b46 := below_step b5 b6
  have B6 := Lib.hid (below_step B4.out b46)
  have I6 := HI4.out.on b46
  have XM6 := HX4.out.on b46
  have C7 := khire_any I6 aw_fine2 (by have := I6.small aw_few2; omega) 7 awR3
  rw [aw_again] at C7
  have C7 := Lib.hid C7
  have HI6 := Lib.hid I6
  have y0 := b1m XM6; have hsx := XM6.1
  have HW6 := Lib.hid hw6; have HX6 := Lib.hid X6; have HXM6 := Lib.hid XM6
  clear C5 b5 b6 b46 I6 XM6 hw6 X6 z0 hsz
  unfold awR1
  go_upto_region 4 with fail
  rw [HW6.out]
  clear HW6
  go_wp2_with (go_at_call 15; refine C7.out.mono ?_)
  intro e7 w7 h7
  obtain ⟨A7, n7, c7, rfl, I7, b7⟩ := h7
  obtain ⟨w8, hw8, X8, b8⟩ := one_box w7 (.slice A7 n7 c7) 26
  have b68 := below_step b7 b8
  have B8 := Lib.hid (below_step B6.out b68)
  have I8 := HI6.out.on b68
  have XM8 := HXM6.out.on b68
  have C9 := kstaff_any I8 aw_fine2 (few_small aw_few2 (by omega)) (by have := I8.small aw_few2; omega) 24276
  rw [aw_staff] at C9
  have C9 := Lib.hid C9
  have y0 := b1m XM8; have hsx := XM8.1
  have HW8 := Lib.hid hw8; have HX8 := Lib.hid (HX6.out.on b68)
  clear C7 b7 b8 b68 I7 I8 XM8 hw8 X8
  go_upto_region 5 with fail
  rw [HW8.out]
  clear HW8
  go_wp2_with (go_at_call 10; refine C9.out.mono ?_)
  intro e9 w9 h9
  obtain ⟨A9, c9, rfl, S9, h90, b9⟩ := h9
  obtain ⟨bL, oL, rfl, hcL⟩ := S9.at (show 0 < [(7 : Int)].length by decide)
  have l0 : w9.cell? ⟨bL, oL, none⟩ = some (.int .i64 7) := by
    have := hcL 0 (by decide) 0 (.int .i64 7) rfl
    simpa using this
  have hsl := World.block_lt_of_cell? w9 _ l0
  obtain ⟨u0, u1, u2, u3, u4, u5, u6⟩ := box7 (HX8.out.on b9)
  have hsu := (HX8.out.on b9).1
  have B9 := Lib.hid (below_step B8.out b9)
  clear C9 S9 h90 b9 hcL y0 hsx
  go_wp2_with fail
  exact FIN.out _ B9.out
end Go.Proofs.Ytbnnmakmgleikaa
