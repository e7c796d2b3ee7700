/-
  What the reference's above answers: whether one remainder is greater than another.
-/
import Derived.Test.YtmmgejgmlhhfdaaRef02Sgn
import Derived.Test.YtmmgejgmlhhfdaaRef02Row
import Derived.Deep.RegionHeld3
import Derived.Deep.DeepCutAuto
namespace Go.Proofs.Ytmmgejgmlhhfdaa
open Go.RowKit

theorem below_al {a w : World} {o : Obj} (h : Below a.heap.size a w) : Below a.heap.size a (w.alloc o) := h.alloc h.size _
theorem below_dr {a w : World} (h : Below a.heap.size a w) : Below a.heap.size a w.drew := h.drew
theorem big_len {n : Int} {w : World} {A : Option Addr} {k c : Nat} (h : Num w A k c n.natAbs) (h0 : -9223372036854775808 ≤ n) (h1 : n ≤ 9223372036854775807) : k ≤ 19 := by
  have := len19 (n := n.natAbs) (by omega); rw [h.len] at this; exact this
theorem below_box {a w : World} {h : Nat} {u v : Value} (hb : Below a.heap.size a w) (hh : a.heap.size ≤ h) : Below a.heap.size a ((w.setCell ⟨h, 0, none⟩ u).setCell ⟨h, 1, none⟩ v) := (hb.setCell hh _).setCell hh _
/-- A box of two cells. -/
def Bx (w : World) (h : Nat) (u v : Value) : Prop := w.cell? ⟨h, 0, none⟩ = some u ∧ w.cell? ⟨h, 1, none⟩ = some v ∧ w.frozen? ⟨h, 0, none⟩ = false ∧ w.frozen? ⟨h, 1, none⟩ = false
theorem Bx.on {w w' : World} {h : Nat} {u v : Value} (b : Bx w h u v) (hb : Below w.heap.size w w') : Bx w' h u v := by
  have l := World.block_lt_of_cell? w _ b.1
  exact ⟨(hb.cell (p := ⟨h, 0, none⟩) l).trans b.1, (hb.cell (p := ⟨h, 1, none⟩) l).trans b.2.1, (hb.frozen (p := ⟨h, 0, none⟩) l).trans b.2.2.1, (hb.frozen (p := ⟨h, 1, none⟩) l).trans b.2.2.2⟩
theorem Bx.new (w : World) (t : TypeId) : Bx (w.alloc (.cells #[.bool false, .slice none 0 0] t)) w.heap.size (.bool false) (.slice none 0 0) := by
  refine ⟨?_, ?_, ?_, ?_⟩ <;> (go_simp; done)
theorem Bx.new2 (w : World) (t : TypeId) (u v : Value) : Bx (w.alloc (.cells #[u, v] t)) w.heap.size u v := by
  refine ⟨?_, ?_, ?_, ?_⟩ <;> (go_simp; done)
theorem Bx.set {w : World} {h : Nat} {u v : Value} (b : Bx w h u v) (x y : Value) : Bx ((w.setCell ⟨h, 0, none⟩ x).setCell ⟨h, 1, none⟩ y) h x y := by
  obtain ⟨h0, h1, f0, f1⟩ := b
  refine ⟨?_, ?_, ?_, ?_⟩
  · rw [World.cell?_setCell_other]
    · exact World.cell?_setCell_same _ _ _ h0
    · intro e; cases e
  · refine World.cell?_setCell_same (u := v) _ _ _ ?_
    rw [World.cell?_setCell_other]
    · exact h1
    · intro e; cases e
  · go_simp
  · go_simp
theorem Sl.box {w : World} {C : Option Addr} {m : Nat} {l : List Int} (s : Sl w C m l) {h : Nat} {a : Bool} {B : Option Addr} {x y : Nat} (h0 : w.cell? ⟨h, 0, none⟩ = some (.bool a)) (h1 : w.cell? ⟨h, 1, none⟩ = some (.slice B x y)) (u v : Value) :
    Sl ((w.setCell ⟨h, 0, none⟩ u).setCell ⟨h, 1, none⟩ v) C m l := by
  obtain ⟨s1, s2, s3, s4⟩ := s
  refine ⟨s1, s2, s3, ?_⟩
  rcases s4 with s4 | ⟨b, off, s4, s5⟩
  · exact .inl s4
  · refine .inr ⟨b, off, s4, fun i hi => ?_⟩
    have k := s5 i hi
    rw [World.cell?_setCell_other, World.cell?_setCell_other, k]
    · intro e; rw [← e, h0] at k; cases k
    · intro e; rw [← e, h1] at k; cases k

set_option maxHeartbeats 3200000 in
set_option maxRecDepth 100000 in
theorem above_at (T S : Int) (A B : Option Addr) (n ca cb : Nat) (ws ps : List Int) (i j : Nat) (w : World) (hA : Sl w A n ws) (hB : Sl w B n ps) (hi : i < n) (hj : j < n)
    (T0 : 0 ≤ T) (T1 : T ≤ 9223372036854775807) (S0 : 0 ≤ S) (S1 : S ≤ 9223372036854775807) (x1 x2 y1 y2 : Int) (e1 : ws.getD i 0 = x1) (e2 : ws.getD j 0 = x2) (e3 : ps.getD i 0 = y1) (e4 : ps.getD j 0 = y2) (p1 : 0 ≤ x1) (p2 : 0 ≤ x2) (p3 : 0 ≤ y1) (p4 : 0 ≤ y2) :
    Calls Try.prog 31 #[.int .i64 T, .int .i64 S, .slice A n ca, .slice B n cb, .int .i64 i, .int .i64 j] w fun e w' => e = .returned (.bool (decide ((y1 - y2) * S < T * (x1 - x2)))) ∧ Below w.heap.size w w' := by
  have m1 := hA.2.1 i hi; have m2 := hA.2.1 j hj; have m3 := hB.2.1 i hi; have m4 := hB.2.1 j hj
  rw [e1] at m1; rw [e2] at m2; rw [e3] at m3; rw [e4] at m4
  have hn := hA.2.2.1
  obtain ⟨b1, o1, rfl, hc1⟩ : ∃ b off, A = some ⟨b, off, none⟩ ∧ ∀ i, i < n → w.cell? ⟨b, off + i, none⟩ = some (.int .i64 (ws.getD i 0)) := by
    rcases hA.2.2.2 with h | h
    · omega
    · exact h
  obtain ⟨b2, o2, rfl, hc2⟩ : ∃ b off, B = some ⟨b, off, none⟩ ∧ ∀ i, i < n → w.cell? ⟨b, off + i, none⟩ = some (.int .i64 (ps.getD i 0)) := by
    rcases hB.2.2.2 with h | h
    · omega
    · exact h
  have g1 := hc1 i hi; have g2 := hc1 j hj; have g3 := hc2 i hi; have g4 := hc2 j hj
  rw [e1] at g1; rw [e2] at g2; rw [e3] at g3; rw [e4] at g4
  have l1 := World.block_lt_of_cell? w _ g1
  have l2 := World.block_lt_of_cell? w _ g3
  clear hc1 hc2 e1 e2 e3 e4 hA hB
  have i1 : (0 : Int) ≤ (i : Int) := by omega
  have i2 : (i : Int) < (n : Int) := by omega
  have j1 : (0 : Int) ≤ (j : Int) := by omega
  have j2 : (j : Int) < (n : Int) := by omega
  have tL : -9223372036854775808 ≤ T := by omega
  have tU : T ≤ 9223372036854775807 := T1
  have sL : -9223372036854775808 ≤ S := by omega
  have sU : S ≤ 9223372036854775807 := S1
  obtain ⟨D, hD0⟩ : ∃ D, D = x1 - x2 := ⟨_, rfl⟩
  obtain ⟨E, hE0⟩ : ∃ D, D = y1 - y2 := ⟨_, rfl⟩
  have dL : -9223372036854775808 ≤ D := by omega
  have dU : D ≤ 9223372036854775807 := by omega
  have eL : -9223372036854775808 ≤ E := by omega
  have eU : E ≤ 9223372036854775807 := by omega
  have hw1 : wrap64 (x1 - x2) = D := by unfold wrap64; omega
  have hw2 : IntKind.i64.wrap (x1 - x2) = D := by rw [IntKind.wrap_i64]; omega
  have hw3 : wrap64 (y1 - y2) = E := by unfold wrap64; omega
  have hw4 : IntKind.i64.wrap (y1 - y2) = E := by rw [IntKind.wrap_i64]; omega
  have HF : Hid (decide ((y1 - y2) * S < T * (x1 - x2)) = decide (0 < cmpS (sgB T D) (sgB E S) (T.natAbs * D.natAbs) (E.natAbs * S.natAbs))) := Lib.hid (by
    rw [cmpS_is, hD0, hE0]; exact decide_eq_decide.2 (compare_pos _ _).symm)
  have ON : Hid (∀ w', Below w.heap.size w w' → w'.cell? ⟨b1, o1 + i, none⟩ = some (.int .i64 x1) ∧ w'.cell? ⟨b1, o1 + j, none⟩ = some (.int .i64 x2)) := Lib.hid (fun w' hb' => ⟨(hb'.cell (p := ⟨b1, o1 + i, none⟩) l1).trans g1, (hb'.cell (p := ⟨b1, o1 + j, none⟩) l1).trans g2⟩)
  have ON2 : Hid (∀ w', Below w.heap.size w w' → w'.cell? ⟨b2, o2 + i, none⟩ = some (.int .i64 y1) ∧ w'.cell? ⟨b2, o2 + j, none⟩ = some (.int .i64 y2)) := Lib.hid (fun w' hb' => ⟨(hb'.cell (p := ⟨b2, o2 + i, none⟩) l2).trans g3, (hb'.cell (p := ⟨b2, o2 + j, none⟩) l2).trans g4⟩)
  clear g3 g4 l1 l2 hD0 hE0 m1 m2 m3 m4 p1 p2 p3 p4 T0 T1 S0 S1
  go_enter Try.func31, Try.ntmps31
  go_upto_region 1 with fail
  go_cut [13] (fun p wx => ∃ (h : Nat) (C : Option Addr) (m c : Nat), p = .pointer (some ⟨h, 0, none⟩) ∧ Bx wx h (.bool (sgB T D)) (.slice C m c) ∧ Sl wx C m (PDigs.digs (T.natAbs * D.natAbs)) ∧ Below w.heap.size w wx)
  case first =>
    go_region_held3 (fun w' => w'.cell? ⟨b1, o1 + i, none⟩ = some (.int .i64 x1) ∧ w'.cell? ⟨b1, o1 + j, none⟩ = some (.int .i64 x2))
      (first
        | exact ON.out _ (by repeat' (first | exact Below.refl _ _ | apply below_al | apply below_dr | refine below_step ?_ hM | refine below_step ?_ hD | refine below_step ?_ hT | refine below_box ?_ ?_ | exact Nat.le_refl _ | exact hT.size | exact Nat.le_trans hT.size hD.size | exact Nat.le_trans (Nat.le_trans hT.size hD.size) hM.size))
        | go_keep)
      (first
        | (go_at_call 43; (with_reducible refine (of_any T _ tL tU).mono ?_); rintro _ wT ⟨AT, nT, cT, rfl, hnT, hT⟩)
        | (go_at_call 43; (first | (with_reducible refine (of_any D _ dL dU).mono ?_) | (rw [hw1]; with_reducible refine (of_any D _ dL dU).mono ?_) | (rw [hw2]; with_reducible refine (of_any D _ dL dU).mono ?_)); rintro _ wD ⟨AD, nD, cD, rfl, hnD, hD⟩)
        | (go_at_call 42; refine (mul_any (decide (T < 0)) (decide (D < 0)) AT AD nT cT nD cD T.natAbs D.natAbs _ (hnT.on (by repeat' (first | exact Below.refl _ _ | apply below_al | apply below_dr | refine below_step ?_ hD))).sl (hnD.on (by repeat' (first | exact Below.refl _ _ | apply below_al | apply below_dr))).sl (by have := big_len hnT tL tU; omega) (by have := big_len hnD dL dU; omega)).mono ?_; rintro _ wM ⟨AM, nM, cM, rfl, hnM, hM⟩; first
          | (have bx : Bx wM w.heap.size (.bool false) (.slice none 0 0) := Bx.on (Bx.on (Bx.on (Bx.new w.drew _) hT) hD) hM; obtain ⟨bx0, bx1, bx2, bx3⟩ := id bx)
          | (have bx : Bx wM wT.heap.size (.bool false) (.slice none 0 0) := Bx.on (Bx.on (Bx.new wT _) hD) hM; obtain ⟨bx0, bx1, bx2, bx3⟩ := id bx)
          | (have bx : Bx wM wD.heap.size (.bool false) (.slice none 0 0) := Bx.on (Bx.new wD _) hM; obtain ⟨bx0, bx1, bx2, bx3⟩ := id bx)
          | skip))
    all_goals
      go_wp2_with fail
      go_meet
      first
      | exact ⟨_, AM, nM, cM, rfl, bx.set _ _, hnM.sl.box bx0 bx1 _ _, by repeat' (first | exact Below.refl _ _ | apply below_al | apply below_dr | refine below_box ?_ ?_ | refine below_step ?_ hM | refine below_step ?_ hD | refine below_step ?_ hT | exact Nat.le_refl _ | exact hT.size | exact Nat.le_trans hT.size hD.size)⟩
      | exact ⟨_, AM, nM, cM, rfl, Bx.new2 _ _ _ _, hnM.sl.on ((Below.refl _ _).alloc (Nat.le_refl _) _), by repeat' (first | exact Below.refl _ _ | apply below_al | apply below_dr | refine below_step ?_ hM | refine below_step ?_ hD | refine below_step ?_ hT)⟩
  case rest =>
    obtain ⟨h1, C1, m1, c1, rfl, BX1, SX1, BW1⟩ := hcut
    have HBX1 := Lib.hid BX1; have HSX1 := Lib.hid SX1; have HBW1 := Lib.hid BW1
    clear BX1 SX1 BW1
    obtain ⟨z1, z2⟩ := ON2.out _ HBW1.out
    have ON3 : Hid (∀ w', Below wc.heap.size wc w' → w'.cell? ⟨b2, o2 + i, none⟩ = some (.int .i64 y1) ∧ w'.cell? ⟨b2, o2 + j, none⟩ = some (.int .i64 y2)) := Lib.hid (fun w' hb' => ON2.out w' (below_step HBW1.out hb'))
    clear ON ON2 g1 g2 hw1 hw2 tL tU dL dU
    go_upto_region 2 with fail
    go_cut [13, 14] (fun p q wx => ∃ (h : Nat) (C : Option Addr) (m c : Nat), p = .pointer (some ⟨h1, 0, none⟩) ∧ q = .pointer (some ⟨h, 0, none⟩) ∧ Bx wx h (.bool (sgB E S)) (.slice C m c) ∧ Sl wx C m (PDigs.digs (E.natAbs * S.natAbs)) ∧ Below wc.heap.size wc wx)
    case first =>
      go_region_held3 (fun w' => w'.cell? ⟨b2, o2 + i, none⟩ = some (.int .i64 y1) ∧ w'.cell? ⟨b2, o2 + j, none⟩ = some (.int .i64 y2))
        (first
          | exact ON3.out _ (by repeat' (first | exact Below.refl _ _ | apply below_al | apply below_dr | refine below_step ?_ hM | refine below_step ?_ hD | refine below_step ?_ hT | refine below_box ?_ ?_ | exact Nat.le_refl _ | exact hT.size | exact Nat.le_trans hT.size hD.size | exact Nat.le_trans (Nat.le_trans hT.size hD.size) hM.size))
          | go_keep)
        (first
          | (go_at_call 43; (first | (with_reducible refine (of_any E _ eL eU).mono ?_) | (rw [hw3]; with_reducible refine (of_any E _ eL eU).mono ?_) | (rw [hw4]; with_reducible refine (of_any E _ eL eU).mono ?_)); rintro _ wT ⟨AT, nT, cT, rfl, hnT, hT⟩)
          | (go_at_call 43; (with_reducible refine (of_any S _ sL sU).mono ?_); rintro _ wD ⟨AD, nD, cD, rfl, hnD, hD⟩)
          | (go_at_call 42; refine (mul_any (decide (E < 0)) (decide (S < 0)) AT AD nT cT nD cD E.natAbs S.natAbs _ (hnT.on (by repeat' (first | exact Below.refl _ _ | apply below_al | apply below_dr | refine below_step ?_ hD))).sl (hnD.on (by repeat' (first | exact Below.refl _ _ | apply below_al | apply below_dr))).sl (by have := big_len hnT eL eU; omega) (by have := big_len hnD sL sU; omega)).mono ?_; rintro _ wM ⟨AM, nM, cM, rfl, hnM, hM⟩; first
            | (have bx : Bx wM wc.heap.size (.bool false) (.slice none 0 0) := Bx.on (Bx.on (Bx.on (Bx.new wc.drew _) hT) hD) hM; obtain ⟨bx0, bx1, bx2, bx3⟩ := id bx)
            | (have bx : Bx wM wT.heap.size (.bool false) (.slice none 0 0) := Bx.on (Bx.on (Bx.new wT _) hD) hM; obtain ⟨bx0, bx1, bx2, bx3⟩ := id bx)
            | (have bx : Bx wM wD.heap.size (.bool false) (.slice none 0 0) := Bx.on (Bx.new wD _) hM; obtain ⟨bx0, bx1, bx2, bx3⟩ := id bx)
            | skip))
      all_goals
        go_wp2_with fail
        go_meet
        first
        | exact ⟨_, AM, nM, cM, rfl, rfl, bx.set _ _, hnM.sl.box bx0 bx1 _ _, by repeat' (first | exact Below.refl _ _ | apply below_al | apply below_dr | refine below_box ?_ ?_ | refine below_step ?_ hM | refine below_step ?_ hD | refine below_step ?_ hT | exact Nat.le_refl _ | exact hT.size | exact Nat.le_trans hT.size hD.size)⟩
        | exact ⟨_, AM, nM, cM, rfl, rfl, Bx.new2 _ _ _ _, hnM.sl.on ((Below.refl _ _).alloc (Nat.le_refl _) _), by repeat' (first | exact Below.refl _ _ | apply below_al | apply below_dr | refine below_step ?_ hM | refine below_step ?_ hD | refine below_step ?_ hT)⟩
    case rest =>
      obtain ⟨h2, C2, m2, c2, rfl, rfl, BX2, SX2, BW2⟩ := hcut
      obtain ⟨u0, u1, -, -⟩ := HBX1.out.on BW2
      obtain ⟨v0, v1, -, -⟩ := BX2
      have SX1 := Lib.hid (HSX1.out.on BW2)
      have SX2 := Lib.hid SX2
      have BW := Lib.hid (below_step HBW1.out BW2)
      clear HBX1 HSX1 HBW1 BW2 ON3 z1 z2 hw3 hw4 eL eU sL sU
      go_wp2_with fail
      refine (compare_any (sgB T D) (sgB E S) C1 C2 m1 c1 m2 c2 (T.natAbs * D.natAbs) (E.natAbs * S.natAbs) _ (SX1.out.on (by first | exact Below.refl _ _ | exact (Below.refl _ _).drew)) (SX2.out.on (by first | exact Below.refl _ _ | exact (Below.refl _ _).drew))).mono ?_
      rintro _ w4 ⟨rfl, hb4⟩
      go_wp2_with fail
      go_ret
      exact ⟨by rw [HF.out]; rfl, below_step BW.out (by first | exact hb4 | exact below_undrew hb4)⟩
end Go.Proofs.Ytmmgejgmlhhfdaa
