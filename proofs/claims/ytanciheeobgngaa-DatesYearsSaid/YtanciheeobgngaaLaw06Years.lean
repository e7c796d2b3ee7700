/-
  DatesYears: the days of all twelve periods of a year are those of the year, of each period all or none of it, whatever stands around.
-/
import Derived.Test.YtanciheeobgngaaLaw06Awake
import Derived.Test.YtanciheeobgngaaDateMath2
import Derived.Deep.DeepCutAuto
namespace Go.Proofs.Ytanciheeobgngaa
open Go.RowKit

set_option maxHeartbeats 3200000 in
set_option maxRecDepth 100000 in
theorem dyears_in (u r y : Int) (w : World) (u0 : 0 ≤ u) (u1 : u ≤ 65535) (hr : u.tmod 1100 = r) (hy : 1900 + r = y) (y0 : 1900 ≤ y) (y1 : y ≤ 2999) :
    Calls Try.prog 6 #[.int .u16 u] w fun e w' => e = .returned (.bool true) ∧ Below w.heap.size w w' := by
  have r0 : 0 ≤ r := by omega
  have r1 : r ≤ 1099 := by omega
  have o1 := PDate.first_ok y0 y1 (show (1 : Int) ≤ 1 by omega) (by omega)
  have o2 := PDate.dec_last y0 y1
  have iy : I64 y := by unfold I64; omega
  have i1 : I64 1 := by unfold I64; omega
  have i12 : I64 12 := by unfold I64; omega
  have i31 : I64 31 := by unfold I64; omega
  have CL : Hid (∀ m w, 1 ≤ m → m ≤ 12 → Calls Try.prog 14 #[.int .i64 y, .int .i64 m] w fun e w' => e = .returned (.int .i64 (PDate.len y m)) ∧ Below w.heap.size w w') := Lib.hid (fun m w h1 h2 => dlen_any iy (by unfold I64; omega))
  have N1 := PDate.num_range o1; have N2 := PDate.num_range o2
  have NY := PDate.year_days y0 y1
  have CN1 : Hid (∀ w, Calls Try.prog 10 #[.agg #[.int .i64 y, .int .i64 1, .int .i64 1]] w fun e w' => e = .returned (.tuple #[.int .i64 (PDate.num y 1 1), .bool true]) ∧ Below w.heap.size w w') := Lib.hid (fun w => by
    have := dnum_any (w := w) iy i1 i1
    rw [if_pos o1, decide_eq_true o1] at this; exact this)
  have CN2 : Hid (∀ w, Calls Try.prog 10 #[.agg #[.int .i64 y, .int .i64 12, .int .i64 31]] w fun e w' => e = .returned (.tuple #[.int .i64 (PDate.num y 12 31), .bool true]) ∧ Below w.heap.size w w') := Lib.hid (fun w => by
    have := dnum_any (w := w) iy i12 i31
    rw [if_pos o2, decide_eq_true o2] at this; exact this)
  have CD : Hid (∀ m w, 1 ≤ m → m ≤ 12 → Calls Try.prog 20 #[.agg #[.int .i64 y, .int .i64 1, .int .i64 1], .agg #[.int .i64 y, .int .i64 12, .int .i64 31], .int .i64 (12 * y + m - 1)] w fun e w' => e = .returned (.int .i64 (PDate.len y m)) ∧ Below w.heap.size w w') := Lib.hid (fun m w h1 h2 => by
    have := ddays_any (w := w) (p := 12 * y + m - 1) iy i1 i1 iy i12 i31 (by unfold I64; omega)
    rw [PDate.days_ok o1 o2, PDate.cnt_year y0 y1 h1 h2] at this; exact this)
  have CA : Hid (∀ w, Calls Try.prog 20 #[.agg #[.int .i64 y, .int .i64 1, .int .i64 1], .agg #[.int .i64 y, .int .i64 12, .int .i64 31], .int .i64 (12 * y - 1)] w fun e w' => e = .returned (.int .i64 0) ∧ Below w.heap.size w w') := Lib.hid (fun w => by
    have := ddays_any (w := w) (p := 12 * y - 1) iy i1 i1 iy i12 i31 (by unfold I64; omega)
    rw [PDate.days_ok o1 o2, PDate.cnt_ahead y0 y1 (Int.le_refl _)] at this; exact this)
  have CB : Hid (∀ w, Calls Try.prog 20 #[.agg #[.int .i64 y, .int .i64 1, .int .i64 1], .agg #[.int .i64 y, .int .i64 12, .int .i64 31], .int .i64 (12 * y + 12)] w fun e w' => e = .returned (.int .i64 0) ∧ Below w.heap.size w w') := Lib.hid (fun w => by
    have := ddays_any (w := w) (p := 12 * y + 12) iy i1 i1 iy i12 i31 (by unfold I64; omega)
    rw [PDate.days_ok o1 o2, PDate.cnt_behind y0 y1 (Int.le_refl _)] at this; exact this)
  have CC : Hid (∀ w, Calls Try.prog 20 #[.agg #[.int .i64 y, .int .i64 12, .int .i64 31], .agg #[.int .i64 y, .int .i64 1, .int .i64 1], .int .i64 (12 * y)] w fun e w' => e = .returned (.int .i64 0) ∧ Below w.heap.size w w') := Lib.hid (fun w => by
    have := ddays_any (w := w) (p := 12 * y) iy i12 i31 iy i1 i1 (by unfold I64; omega)
    rw [PDate.days_ok o2 o1, PDate.cnt_back y0 y1] at this; exact this)
  generalize PDate.num y 1 1 = A at *
  generalize PDate.num y 12 31 = E at *
  have HNY := Lib.hid NY
  clear o1 o2 iy i1 i12 i31 NY
  obtain ⟨A0, A1⟩ := N1
  obtain ⟨E0, E1⟩ := N2
  go_enter Try.func6, Try.ntmps6
  go_wp2_with fail
  obtain ⟨w1, hw1⟩ : ∃ w1, w1 = (w.alloc (.cells #[.int .i64 y, .int .i64 1, .int .i64 1] 23)).alloc (.cells #[.int .i64 y, .int .i64 12, .int .i64 31] 23) := ⟨_, rfl⟩
  rw [← hw1]
  obtain ⟨H, hH⟩ : ∃ H, H = w.heap.size := ⟨_, rfl⟩
  have DA : Hid (D3 w1 H y 1 1) := Lib.hid (by rw [hw1, hH]; exact (D3.new _ _ _ _ _).alloc _)
  have DB : Hid (D3 w1 (H + 1) y 12 31) := Lib.hid (by rw [hw1, hH]; have := D3.new (w.alloc (.cells #[.int .i64 y, .int .i64 1, .int .i64 1] 23)) 23 y 12 31; simpa using this)
  have B1 : Hid (Below w.heap.size w w1) := Lib.hid (by rw [hw1]; exact ((Below.refl _ _).alloc (Nat.le_refl _) _).alloc (by simp) _)
  rw [← hH]
  clear hw1 hH
  refine (CN1.out _).mono ?_
  rintro _ w2 ⟨rfl, b2⟩
  have DA2 := Lib.hid (DA.out.on b2); have DB2 := Lib.hid (DB.out.on b2); have B2 := Lib.hid (below_step B1.out b2)
  obtain ⟨e0, e1, e2⟩ := DB2.out.1
  clear b2 DA DB B1
  go_wp2_with fail
  refine (CN2.out _).mono ?_
  rintro _ w3 ⟨rfl, b3⟩
  have DA3 := Lib.hid (DA2.out.on b3); have DB3 := Lib.hid (DB2.out.on b3); have B3 := Lib.hid (below_step B2.out b3)
  clear b3 DA2 DB2 B2 e0 e1 e2 CN1 CN2
  go_wp2_with fail
  go_loopw [10, 11] (fun s i wr => ∃ (j v : Int), 1 ≤ j ∧ j ≤ 13 ∧ i = .int .i64 j ∧ s = .int .i64 v ∧ Hid (v = PDate.ma y j) ∧ 0 ≤ v ∧ v ≤ 366 ∧ Hid (Below w3.heap.size w3 wr)) (fun _ i _ => (13 - intOf i).toNat)
  case atStart => exact ⟨1, 0, by omega, by omega, rfl, rfl, (show Hid ((0 : Int) = PDate.ma y 1) from (by rw [PDate.ma_first] : (0 : Int) = PDate.ma y 1)), by omega, by omega, (show Hid _ from Below.refl _ _)⟩
  case round =>
    obtain ⟨j, v, hj0, hj1, rfl, rfl, HV, hv0, hv1, HB⟩ := hrel
    have DA4 := Lib.hid (DA3.out.on HB.out); have DB4 := Lib.hid (DB3.out.on HB.out)
    obtain ⟨c0, c1, c2⟩ := DA4.out.1
    obtain ⟨e0, e1, e2⟩ := DB4.out.1
    by_cases hj : j ≤ 12
    · have hnx := PDate.ma_next y0 y1 hj0 hj
      have hq1 := PDate.ma_mono (y := y) (m := j + 1) (k := 13) (by omega) (by omega) (by omega)
      rw [PDate.ma_all] at hq1
      have hlp := PDate.lp_cases y
      have hlb := PDate.len_bounds y j
      have hc := CL.out j
      have hd := CD.out j
      obtain ⟨l, hl⟩ : ∃ l, PDate.len y j = l := ⟨_, rfl⟩
      rw [hl] at hnx hc hlb hd
      have HV2 : Hid (v + l = PDate.ma y (j + 1)) := Lib.hid (by have := HV.out; omega)
      have hv2 : v + l ≤ 366 := by have := HV2.out; omega
      have HCC := Lib.hid (fun w => hc w hj0 hj)
      have HDD := Lib.hid (fun w => hd w hj0 hj)
      obtain ⟨l0, l1⟩ := hlb
      have ll : (l != l) = false := bne_self_eq_false _
      clear hnx hq1 hlp hc hl hd
      go_wp2_with fail
      refine (HDD.out _).mono ?_
      rintro _ w4 ⟨rfl, b4⟩
      have B4 := Lib.hid (below_step HB.out b4)
      clear b4 HB c0 c1 c2 e0 e1 e2
      go_wp2_with fail
      refine (HCC.out _).mono ?_
      rintro _ w5 ⟨rfl, b5⟩
      have B5 := Lib.hid (below_step B4.out b5)
      clear b5 B4
      go_wp2_with fail
      exact ⟨⟨j + 1, v + l, by omega, by omega, rfl, rfl, HV2, by omega, hv2, B5⟩, by simp [intOf]; omega⟩
    · obtain rfl : j = 13 := by omega
      have hv : E - A + 1 = v := by rw [HNY.out, HV.out]
      have hw : IntKind.i64.wrap v = v := by rw [IntKind.wrap_i64]; omega
      have vv : (v == v) = true := beq_self_eq_true _
      have B5 := Lib.hid (below_step B3.out HB.out)
      go_wp2_with fail
      refine (CA.out _).mono ?_
      rintro _ w6 ⟨rfl, b6⟩
      have DA6 := Lib.hid (DA4.out.on b6); have DB6 := Lib.hid (DB4.out.on b6); have B6 := Lib.hid (below_step B5.out b6)
      clear b6 c0 c1 c2 e0 e1 e2 DA4 DB4 B5
      obtain ⟨c0, c1, c2⟩ := DA6.out.1
      obtain ⟨e0, e1, e2⟩ := DB6.out.1
      go_wp2_with fail
      refine (CB.out _).mono ?_
      rintro _ w7 ⟨rfl, b7⟩
      have DA7 := Lib.hid (DA6.out.on b7); have DB7 := Lib.hid (DB6.out.on b7); have B7 := Lib.hid (below_step B6.out b7)
      clear b7 c0 c1 c2 e0 e1 e2 DA6 DB6 B6
      obtain ⟨c0, c1, c2⟩ := DA7.out.1
      obtain ⟨e0, e1, e2⟩ := DB7.out.1
      go_wp2_with fail
      refine (CC.out _).mono ?_
      rintro _ w8 ⟨rfl, b8⟩
      have B8 := Lib.hid (below_step B7.out b8)
      clear b8 c0 c1 c2 e0 e1 e2 DA7 DB7 B7
      go_wp2_with fail
      refine (awake_any _).mono ?_
      rintro _ w9 ⟨rfl, b9⟩
      have B9 := Lib.hid (below_step B8.out b9)
      clear b9
      go_wp2_with fail
      go_ret
      exact ⟨rfl, B9.out⟩

theorem dyears_walk (u : Int) (w : World) (hu : (Lit.int .u16 u).wf = true) :
    Calls Try.prog 6 #[.int .u16 u] w fun e w' => e = .returned (.bool true) ∧ Below w.heap.size w w' := by
  obtain ⟨u0, u1⟩ := u16_bounds hu
  have : u.tmod 1100 = u % 1100 := Int.tmod_eq_emod_of_nonneg u0
  exact dyears_in u _ _ w u0 u1 rfl rfl (by omega) (by omega)
end Go.Proofs.Ytanciheeobgngaa
