/-
  What the reference's Mul answers: the product's sign and digits.
-/
import Derived.Test.YtmmgejgmlhhfdaaRef02Of
import Derived.Deep.OwnRows
import Derived.Deep.RegionHeld3
import Derived.StillTailTactics
import Derived.BigRegion
import Derived.Deep.DeepCutAuto
namespace Go.Proofs.Ytmmgejgmlhhfdaa
open Go.RowKit

/-- The product's row. -/
def Row (w : World) (H L : Nat) (l : List Int) : Prop := w.ownsRow H 3 1 (.slice (some ⟨H, 0, none⟩) L L) L (cellsOfInts l)
theorem make_ints (la lb L : Nat) (hL : L = la + lb + 1) (h : L ≤ 1000) (W : World) :
    (Instr.makeSlice 24 (.int .i64 ((la : Int) + lb + 1)) (.int .i64 ((la : Int) + lb + 1))).run Try.prog W = .ok (.slice (some ⟨W.heap.size, 0, none⟩) L L) (W.alloc (.cells (madeCells #[.int .i64 0] L) 3)) := by
  have := run_make_row' (P := Try.prog) 24 3 (.int .i64 0) 8 Try.underlying24 infoInt rfl .i64 .i64 L (by omega) (by omega) W
  rw [show ((L : Nat) : Int) = (la : Int) + lb + 1 by omega] at this
  exact this
theorem made_row (W : World) (H L : Nat) (hH : W.heap.size = H) (h : L ≤ 1000) : Row (W.alloc (.cells (madeCells #[.int .i64 0] L) 3)) H L (List.replicate L 0) := by
  unfold Row
  have := World.ownsRow_lit (base := H) (e := 3) (size := 1) W (madeCells #[.int .i64 0] L) L (by omega) (by unfold maxLen; omega) (by simp [madeCells])
  rw [hH] at this
  have e : cellsOfInts (List.replicate L 0) = (madeCells #[.int .i64 0] L).toList := by simp [cellsOfInts, madeCells, Nat.mod_one, List.map_const']
  rw [e]; exact this

theorem row_at {w : World} {H L t : Nat} {l : List Int} (h : Row w H L l) (hl : l.length = L) (ht : t < L) : w.cell? ⟨H, t, none⟩ = some (.int .i64 (l.getD t 0)) := by
  have := World.ownsRow.cellAt h t (by omega)
  rw [this]; exact cellsOfInts_get l t (by omega)
theorem row_set {w : World} {H L : Nat} {l : List Int} (h : Row w H L l) (t : Nat) (z : Int) : Row (w.setCell ⟨H, t, none⟩ (.int .i64 z)) H L (l.set t z) := by
  have := (World.ownsRow.stored h t (.int .i64 z)).1
  unfold Row
  rw [show cellsOfInts (l.set t z) = (cellsOfInts l).set t (.int .i64 z) by simp [cellsOfInts, List.map_set]]
  exact this
theorem row_sl {w : World} {H L : Nat} {l : List Int} (h : Row w H L l) (hd : PDigs.Dig l) (hn : L ≤ 1000) : Sl w (some ⟨H, 0, none⟩) L l := by
  obtain ⟨a, cap, e, _, _, _, hsl⟩ := sl_of_own h (dig_in64 hd) (by omega)
  injection e with e1
  rw [e1]; exact hsl
theorem Sl.setCell {w : World} {b off n : Nat} {l : List Int} (h : Sl w (some ⟨b, off, none⟩) n l) {p : Addr} (hp : p.block ≠ b) (v : Value) : Sl (w.setCell p v) (some ⟨b, off, none⟩) n l := by
  obtain ⟨h1, h2, h3, h4⟩ := h
  refine ⟨h1, h2, h3, ?_⟩
  rcases h4 with h4 | ⟨b', off', e, h5⟩
  · exact .inl h4
  · cases e
    exact .inr ⟨b, off, rfl, fun i hi => by rw [World.cell?_setCell_other _ _ _ _ (by rintro rfl; exact hp rfl)]; exact h5 i hi⟩
theorem mul_end {w wr : World} {n k z : Nat} {bb : Bool} (hs : Sl wr (some ⟨w.heap.size + 1 + 1 + 1, 0, none⟩) n (PDigs.digs z)) (hn : n ≤ k + 1) (hk : k + 1 ≤ 1000) (hb : Below w.heap.size w wr) :
    BigR bb z w (.returned (.agg #[.bool bb, .slice (some ⟨w.heap.size + 1 + 1 + 1, 0, none⟩) n (k + 1)])) ((wr.setCell ⟨w.heap.size + 1 + 1, 0, none⟩ (.bool bb)).setCell ⟨w.heap.size + 1 + 1, 1, none⟩ (.slice (some ⟨w.heap.size + 1 + 1 + 1, 0, none⟩) n (k + 1))) :=
  ⟨_, n, k + 1, rfl, ⟨(fun e => by cases e), hn, by omega, (Sl.setCell (Sl.setCell hs (p := ⟨w.heap.size + 1 + 1, 0, none⟩) (by simp) _) (p := ⟨w.heap.size + 1 + 1, 1, none⟩) (by simp) _)⟩, (hb.setCell (by simp; omega) _).setCell (by simp; omega) _⟩
/-- The world behind the boxes. -/
def boxed (w : World) (ma mb : Bool) (va vb : Value) : World :=
  ((w.alloc (.cells #[.bool ma, va] 67)).alloc (.cells #[.bool mb, vb] 67)).alloc (.cells #[.bool false, .slice none 0 0] 67)
theorem boxed_size (w : World) (ma mb : Bool) (va vb : Value) : (boxed w ma mb va vb).heap.size = w.heap.size + 1 + 1 + 1 := by simp [boxed]
theorem boxed_below (w : World) (ma mb : Bool) (va vb : Value) : Below w.heap.size w (boxed w ma mb va vb) :=
  (((Below.refl _ _).alloc (Nat.le_refl _) _).alloc (by simp) _).alloc (by simp; omega) _
theorem boxed_cells (w : World) (ma mb : Bool) (va vb : Value) :
    (boxed w ma mb va vb).cell? ⟨w.heap.size, 0, none⟩ = some (.bool ma) ∧ (boxed w ma mb va vb).cell? ⟨w.heap.size, 1, none⟩ = some va ∧
    (boxed w ma mb va vb).cell? ⟨w.heap.size + 1, 0, none⟩ = some (.bool mb) ∧ (boxed w ma mb va vb).cell? ⟨w.heap.size + 1, 1, none⟩ = some vb ∧
    (boxed w ma mb va vb).cell? ⟨w.heap.size + 1 + 1, 0, none⟩ = some (.bool false) ∧ (boxed w ma mb va vb).cell? ⟨w.heap.size + 1 + 1, 1, none⟩ = some (.slice none 0 0) ∧
    (boxed w ma mb va vb).frozen? ⟨w.heap.size + 1 + 1, 0, none⟩ = false ∧ (boxed w ma mb va vb).frozen? ⟨w.heap.size + 1 + 1, 1, none⟩ = false := by
  unfold boxed
  refine ⟨?_, ?_, ?_, ?_, ?_, ?_, ?_, ?_⟩ <;> go_simp

set_option maxHeartbeats 3200000 in
set_option maxRecDepth 100000 in
theorem mul_any (ma mb : Bool) (A B : Option Addr) (la ca lb cb x y : Nat) (w : World) (hA : Sl w A la (PDigs.digs x)) (hB : Sl w B lb (PDigs.digs y)) (h1 : la ≤ 100) (h2 : lb ≤ 100) :
    Calls Try.prog 42 #[.agg #[.bool ma, .slice A la ca], .agg #[.bool mb, .slice B lb cb]] w (BigR ((ma != mb) && decide (0 < x * y)) (x * y) w) := by
  obtain ⟨L, hL⟩ : ∃ L, L = la + lb + 1 := ⟨_, rfl⟩
  have hmk := make_ints la lb L hL (by omega)
  have hL1 : la + lb + 1 ≤ L := by omega
  have hL2 : L ≤ la + lb + 1 := by omega
  have HLL := Lib.hid hL; clear hL
  have HA := Lib.hid hA; have HB := Lib.hid hB; clear hA hB
  go_enter Try.func42, Try.ntmps42
  go_wp2_with fail
  go_loopw [6] (fun i wr => ∃ (j : Nat) (l : List Int), j ≤ la ∧ i = .int .i64 j ∧ PDigs.MulOut x y L j l ∧ Row wr (w.heap.size + 1 + 1 + 1) L l ∧ Below (w.heap.size + 1 + 1 + 1) (boxed w ma mb (.slice A la ca) (.slice B lb cb)) wr) (fun i _ => la - (intOf i).toNat)
  case atStart => exact ⟨0, _, Nat.zero_le _, rfl, PDigs.mulOut_zero x y L, made_row _ _ L (boxed_size _ _ _ _ _) (by omega), (Below.refl _ _).alloc (Nat.le_of_eq (boxed_size _ _ _ _ _).symm) _⟩
  case round =>
    obtain ⟨j, l, hj, rfl, hmo, hrow, hbl⟩ := hrel
    have HM := Lib.hid hmo; have HR := Lib.hid hrow
    clear hmo hrow
    obtain ⟨k1, k2, k3, k4, k5, k6, k7, k8⟩ := boxed_cells w ma mb (.slice A la ca) (.slice B lb cb)
    have c1 := (hbl.cell (p := ⟨w.heap.size, 1, none⟩) (by simp; omega)).trans k2
    by_cases hlt : j < la
    · clear hmk k1 k2 k3 k4 k5 k6 k7 k8
      have c2 : Hid ((boxed w ma mb (.slice A la ca) (.slice B lb cb)).cell? ⟨w.heap.size + 1, 1, none⟩ = some (.slice B lb cb)) := Lib.hid (boxed_cells w ma mb (.slice A la ca) (.slice B lb cb)).2.2.2.1
      have c1' : Hid ((boxed w ma mb (.slice A la ca) (.slice B lb cb)).cell? ⟨w.heap.size, 1, none⟩ = some (.slice A la ca)) := Lib.hid (boxed_cells w ma mb (.slice A la ca) (.slice B lb cb)).2.1
      obtain ⟨b1, o1, rfl, hca⟩ : ∃ b off, A = some ⟨b, off, none⟩ ∧ ∀ i, i < la → w.cell? ⟨b, off + i, none⟩ = some (.int .i64 ((PDigs.digs x).getD i 0)) := by
        rcases HA.out.2.2.2 with h | h
        · omega
        · exact h
      have HCA := Lib.hid hca; clear hca
      go_wp2_with fail
      go_loopw [7] (fun i wz => ∃ (k : Nat) (l : List Int), k ≤ lb ∧ i = .int .i64 k ∧ PDigs.MulIn x y L j k l ∧ Row wz (w.heap.size + 1 + 1 + 1) L l ∧ Below (w.heap.size + 1 + 1 + 1) (boxed w ma mb (.slice (some ⟨b1, o1, none⟩) la ca) (.slice B lb cb)) wz) (fun i _ => lb - (intOf i).toNat)
      case atStart => exact ⟨0, l, Nat.zero_le _, rfl, PDigs.mulIn_zero HM.out, HR.out, hbl⟩
      case round =>
        obtain ⟨k, m, hk, rfl, hmi, hrow, hbz⟩ := hrel
        have HMI := Lib.hid hmi; have HRZ := Lib.hid hrow
        clear hmi hrow
        have z2 := (hbz.cell (p := ⟨w.heap.size + 1, 1, none⟩) (by simp)).trans c2.out
        by_cases hkb : k < lb
        · obtain ⟨b2, o2, rfl, hcb⟩ : ∃ b off, B = some ⟨b, off, none⟩ ∧ ∀ i, i < lb → w.cell? ⟨b, off + i, none⟩ = some (.int .i64 ((PDigs.digs y).getD i 0)) := by
            rcases HB.out.2.2.2 with h | h
            · omega
            · exact h
          have z1 := (hbz.cell (p := ⟨w.heap.size, 1, none⟩) (by simp; omega)).trans c1'.out
          have bw := (boxed_below w ma mb (.slice (some ⟨b1, o1, none⟩) la ca) (.slice (some ⟨b2, o2, none⟩) lb cb)).trans (hbz.mono (by omega))
          have z3 := (bw.cell (World.block_lt_of_cell? w _ (HCA.out j hlt))).trans (HCA.out j hlt)
          have z4 := (bw.cell (World.block_lt_of_cell? w _ (hcb k hkb))).trans (hcb k hkb)
          have z5 : wr.cell? ⟨w.heap.size + 1 + 1 + 1, j + k, none⟩ = some (.int .i64 (m.getD (j + k) 0)) := row_at HRZ.out HMI.out.1 (by omega)
          have z6 : wr.frozen? ⟨w.heap.size + 1 + 1 + 1, j + k, none⟩ = false := HRZ.out.frozenAt _
          clear bw
          obtain ⟨p0, p9⟩ := PDigs.digs_getD x j
          obtain ⟨q0, q9⟩ := PDigs.digs_getD y k
          have s0 := (HMI.out.2.1 (j + k)).1
          have s1 := (HMI.out.2.1 (j + k)).2
          have HNX := Lib.hid (PDigs.mulIn_next HMI.out (by omega))
          generalize (PDigs.digs x).getD j 0 = p at *
          generalize (PDigs.digs y).getD k 0 = q at *
          generalize hs : m.getD (j + k) 0 = s at *
          clear hcb
          have hpq0 : 0 ≤ p * q := Int.mul_nonneg p0 q0
          have hpq1 : p * q ≤ 81 := by
            have : p * q ≤ 9 * 9 := Int.mul_le_mul p9 q9 q0 (by omega)
            omega
          have i1 : (0 : Int) ≤ (j : Int) := by omega
          have i2 : (j : Int) < (la : Int) := by omega
          have i3 : (0 : Int) ≤ (k : Int) := by omega
          have i4 : (k : Int) < (lb : Int) := by omega
          have i5 : (0 : Int) ≤ (j : Int) + (k : Int) := by omega
          have i6 : (j : Int) + (k : Int) < (L : Int) := by omega
          go_wp2_with fail
          go_region
          go_wp2_with fail
          have HRN := Lib.hid (row_set HRZ.out (j + k) (s + p * q))
          go_roundw
          case rel => exact ⟨k + 1, _, by omega, by go_num, HNX.out, HRN.out, (hbz.setCell (Nat.le_refl _) _).drew⟩
          case measure => simp [intOf]; omega
        · obtain rfl : k = lb := by omega
          have HO := Lib.hid (PDigs.mulOut_next (by rw [HB.out.1]; exact HMI.out))
          go_wp2_with fail
          go_roundw
          case rel => exact ⟨j + 1, m, by omega, by go_num, HO.out, HRZ.out, hbz⟩
          case measure => simp [intOf]; omega
    · obtain rfl : j = la := by omega
      have HC := Lib.hid (PDigs.carried_zero (by rw [HA.out.1]; exact HM.out) (by rw [HA.out.1]; exact h1))
      clear hmk k1 k2 k3 k4 k5 k6 k7 k8
      go_wp2_with fail
      go_loopw [8] (fun i wz => ∃ (k : Nat) (m : List Int), k + 1 ≤ L ∧ i = .int .i64 k ∧ PDigs.Carried ((x * y : Nat) : Int) L k m ∧ Row wz (w.heap.size + 1 + 1 + 1) L m ∧ Below (w.heap.size + 1 + 1 + 1) (boxed w ma mb (.slice A j ca) (.slice B lb cb)) wz) (fun i _ => L - (intOf i).toNat)
      case atStart => exact ⟨0, l, by omega, rfl, HC.out, HR.out, hbl⟩
      case round =>
        obtain ⟨k, m, hk, rfl, hca, hrow, hbz⟩ := hrel
        have HCA := Lib.hid hca; have HRZ := Lib.hid hrow
        clear hca hrow
        by_cases hlt2 : k + 1 < L
        · have z1 := row_at HRZ.out HCA.out.1 (show k < L by omega)
          have z2 := row_at HRZ.out HCA.out.1 hlt2
          have z3 : wr.frozen? ⟨w.heap.size + 1 + 1 + 1, k, none⟩ = false := HRZ.out.frozenAt _
          have z4 : wr.frozen? ⟨w.heap.size + 1 + 1 + 1, k + 1, none⟩ = false := HRZ.out.frozenAt _
          have HNX := Lib.hid (PDigs.carried_next HCA.out hlt2)
          have HRN := Lib.hid (row_set (row_set HRZ.out (k + 1) (m.getD (k + 1) 0 + m.getD k 0 / 10)) k (m.getD k 0 % 10))
          have s0 := HCA.out.2.1 k
          have s1 := HCA.out.2.2.2.1
          have t0 := HCA.out.2.1 (k + 1)
          have t1 := HCA.out.2.2.2.2.1 (k + 1) (by omega)
          generalize m.getD (k + 1) 0 = t at *
          generalize m.getD k 0 = s at *
          have i1 : (0 : Int) ≤ (k : Int) := by omega
          have i2 : (k : Int) < (L : Int) := by omega
          have i3 : (0 : Int) ≤ (k : Int) + 1 := by omega
          have i4 : (k : Int) + 1 < (L : Int) := by omega
          go_wp2_with fail
          go_region
          go_wp2_with fail
          exact ⟨⟨k + 1, _, by omega, by go_num, HNX.out, HRN.out, ((hbz.setCell (Nat.le_refl _) _).setCell (Nat.le_refl _) _).drew⟩, by simp [intOf]; omega⟩
        · obtain rfl : L = k + 1 := by omega
          obtain ⟨hdig, hval⟩ := PDigs.carried_end HCA.out (by rw [HA.out.1, HB.out.1]; omega)
          obtain ⟨k1, k2, k3, k4, k5, k6, k7, k8⟩ := boxed_cells w ma mb (.slice A j ca) (.slice B lb cb)
          have c0 := (hbz.cell (p := ⟨w.heap.size, 0, none⟩) (by simp; omega)).trans k1
          have c3 := (hbz.cell (p := ⟨w.heap.size + 1, 0, none⟩) (by simp)).trans k3
          have c5 := (hbz.cell (p := ⟨w.heap.size + 1 + 1, 0, none⟩) (by simp)).trans k5
          have c6 := (hbz.cell (p := ⟨w.heap.size + 1 + 1, 1, none⟩) (by simp)).trans k6
          have c7 := (hbz.frozen (p := ⟨w.heap.size + 1 + 1, 0, none⟩) (by simp)).trans k7
          have c8 := (hbz.frozen (p := ⟨w.heap.size + 1 + 1, 1, none⟩) (by simp)).trans k8
          clear k1 k2 k3 k4 k5 k6 k7 k8
          have HSM : Hid (Sl wr (some ⟨w.heap.size + 1 + 1 + 1, 0, none⟩) (k + 1) m) := Lib.hid (row_sl HRZ.out hdig (by omega))
          have HDG := Lib.hid hdig; have HVL := Lib.hid hval
          clear hdig hval
          go_wp2_with fail
          refine (trim_any _ (k + 1) (k + 1) m _ HSM.out HDG.out (Nat.le_refl _) (by omega)).mono ?_
          rintro _ _ ⟨n, rfl, hn, hsn, rfl⟩
          rw [HVL.out] at hsn
          have hnp : Hid (decide (0 < x * y) = decide (0 < n)) := Lib.hid (by
            rw [← hsn.1]
            by_cases h0 : x * y = 0
            · rw [h0, PDigs.digs_zero]; rfl
            · have : (PDigs.digs (x * y)).length ≠ 0 := fun e => h0 (PDigs.digs_eq_nil.1 (List.eq_nil_of_length_eq_zero e))
              simp; omega)
          have HSN := Lib.hid hsn; clear hsn
          have hbw : Below w.heap.size w wr := (boxed_below w ma mb (.slice A j ca) (.slice B lb cb)).trans (hbz.mono (by omega))
          by_cases hne : ma = mb
          · subst hne
            have HBB : Hid (((ma != ma) && decide (0 < x * y)) = false) := Lib.hid (by simp)
            clear hnp
            go_wp2_with fail
            refine bodyPost_ret (v := .agg #[.bool false, .slice (some ⟨w.heap.size + 1 + 1 + 1, 0, none⟩) n (k + 1)]) (by simp [results, Try.results42, go_sem, c5, c6]) rfl ?_
            rw [HBB.out]
            exact mul_end HSN.out hn (by omega) hbw
          · by_cases hp : 0 < n
            · have HBB : Hid (((ma != mb) && decide (0 < x * y)) = (!(ma == mb))) := Lib.hid (by rw [hnp.out]; simp [hp]; rfl)
              clear hnp
              go_wp2_with fail
              refine bodyPost_ret (v := .agg #[.bool (!(ma == mb)), .slice (some ⟨w.heap.size + 1 + 1 + 1, 0, none⟩) n (k + 1)]) (by simp [results, Try.results42, go_sem, c5, c6]) rfl ?_
              rw [HBB.out]
              exact mul_end HSN.out hn (by omega) hbw
            · have HBB : Hid (((ma != mb) && decide (0 < x * y)) = false) := Lib.hid (by rw [hnp.out]; simp [hp])
              clear hnp
              go_wp2_with fail
              refine bodyPost_ret (v := .agg #[.bool false, .slice (some ⟨w.heap.size + 1 + 1 + 1, 0, none⟩) n (k + 1)]) (by simp [results, Try.results42, go_sem, c5, c6]) rfl ?_
              rw [HBB.out]
              exact mul_end HSN.out hn (by omega) hbw
end Go.Proofs.Ytmmgejgmlhhfdaa
