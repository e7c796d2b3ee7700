/-
  What the calls of package dates answer: whether it is a date, numbers, dates of numbers, periods, days.
-/
import Derived.Test.YtanciheeobgngaaDateLen
import Derived.Test.YtanciheeobgngaaDateMath2
import Derived.Deep.RegionHeld3
import Derived.Deep.DeepCutAuto
import Derived.Handy
namespace Go.Proofs.Ytanciheeobgngaa
open Go.RowKit
variable {y m d y' m' d' p n : Int} {w : World}

theorem dlen_any (_ : I64 y) (_ : I64 m) : Calls Try.prog 14 #[.int .i64 y, .int .i64 m] w fun e w' => e = .returned (.int .i64 (PDate.len y m)) ∧ Below w.heap.size w w' := dlen_all y m w
theorem dright_any (_ : I64 y) (_ : I64 m) (_ : I64 d) : Calls Try.prog 13 #[reD y m d] w fun e w' => e = .returned (.bool (decide (PDate.ok y m d))) ∧ Below w.heap.size w w' := dright_all y m d w

set_option maxHeartbeats 1600000 in
theorem dnum_all (y m d : Int) (w : World) : Calls Try.prog 10 #[reD y m d] w fun e w' => e = .returned (.tuple #[.int .i64 (if PDate.ok y m d then PDate.num y m d else 0), .bool (decide (PDate.ok y m d))]) ∧ Below w.heap.size w w' := by
  have HR : Hid (∀ w, Calls Try.prog 13 #[.agg #[.int .i64 y, .int .i64 m, .int .i64 d]] w fun e w' => e = .returned (.bool (decide (PDate.ok y m d))) ∧ Below w.heap.size w w') := Lib.hid (dright_all y m d)
  unfold reD
  by_cases h : PDate.ok y m d
  · rw [if_pos h, decide_eq_true h]
    rw [decide_eq_true h] at HR
    have HL : Hid (∀ y m w, Calls Try.prog 14 #[.int .i64 y, .int .i64 m] w fun e w' => e = .returned (.int .i64 (PDate.len y m)) ∧ Below w.heap.size w w') := Lib.hid dlen_all
    have HA : Hid (∀ y w, 1900 ≤ y → y ≤ 3000 → Calls Try.prog 21 #[.int .i64 y] w fun e w' => e = .returned (.int .i64 (PDate.ya y)) ∧ Below w.heap.size w w') := Lib.hid dahead_any
    obtain ⟨⟨y0, y1⟩, ⟨m0, m1⟩, d0, d1⟩ := PDate.ok_in h
    have HN : Hid (PDate.num y m d = PDate.ya y + PDate.ma y m + d - 1) := Lib.hid rfl
    have hm1 := PDate.ya_mono y0
    have hm2 := PDate.ya_mono (show y ≤ 3000 by omega)
    rw [PDate.ya_first] at hm1; rw [PDate.ya_last] at hm2
    obtain ⟨Y, hY⟩ : ∃ Y, PDate.ya y = Y := ⟨_, rfl⟩
    rw [hY] at hm1 hm2 HN
    have HY := Lib.hid hY
    clear h hY
    go_enter Try.func10, Try.ntmps10
    go_wp2_with fail
    obtain ⟨w1, hw1⟩ : ∃ w1, w1 = w.alloc (.cells #[.int .i64 y, .int .i64 m, .int .i64 d] 23) := ⟨_, rfl⟩
    rw [← hw1]
    have CA : Hid (w1.cell? ⟨w.heap.size, 0, none⟩ = some (.int .i64 y) ∧ w1.cell? ⟨w.heap.size, 1, none⟩ = some (.int .i64 m) ∧ w1.cell? ⟨w.heap.size, 2, none⟩ = some (.int .i64 d)) := Lib.hid (by rw [hw1]; refine ⟨?_, ?_, ?_⟩ <;> go_simp)
    have B1 : Hid (Below w.heap.size w w1) := Lib.hid (by rw [hw1]; exact (Below.refl _ _).alloc (Nat.le_refl _) _)
    obtain ⟨L, hL⟩ : ∃ L, L = w.heap.size := ⟨_, rfl⟩
    have hlt : L < w1.heap.size := by rw [hw1, hL]; simp
    rw [← hL] at CA ⊢
    clear hw1 hL
    refine (HR.out _).mono ?_
    rintro _ w2 ⟨rfl, b⟩
    have CB := Lib.hid (keep3 b CA.out)
    have B2 := Lib.hid (below_step B1.out b)
    have hlt2 : L < w2.heap.size := Nat.lt_of_lt_of_le hlt b.size
    clear b CA B1 hlt w1 HR
    go_wp2_with fail
    obtain ⟨c0, c1, c2⟩ := CB.out
    go_region_held3 (fun w' => w'.cell? ⟨L, 0, none⟩ = some (.int .i64 y) ∧ w'.cell? ⟨L, 1, none⟩ = some (.int .i64 m) ∧ w'.cell? ⟨L, 2, none⟩ = some (.int .i64 d))
      (first
        | go_keep
        | (refine ⟨?_, ?_, ?_⟩ <;> exact (hb7.cell (by simp; omega)).trans (by go_simp)))
      (first
        | (go_at_call 21; refine (HA.out _ _ y0 (by omega)).mono ?_; rintro _ w7 ⟨rfl, hb7⟩; rw [HY.out]))
    rename_i hHeld
    have B7 := Lib.hid (below_step B2.out (below_step ((Below.refl _ _).drew) hb7))
    have C7 := Lib.hid hHeld
    have hlt7 : L < w7.heap.size := World.block_lt_of_cell? w7 _ C7.out.1
    clear hb7 hHeld CB B2 hlt2 c0 c1 c2 w2 HA
    obtain ⟨D, hD⟩ : ∃ D, D = d - 1 := ⟨_, rfl⟩
    obtain ⟨X, hX⟩ : ∃ X, X = Y + d - 1 := ⟨_, rfl⟩
    have HX := Lib.hid hX
    have hx0 : 0 ≤ X := by omega
    have hx1 : X ≤ 401797 := by omega
    go_wp2_with fail
    rw [show IntKind.i64.wrap (Y + d) = Y + d by rw [IntKind.wrap_i64]; omega, show IntKind.i64.wrap (Y + d - 1) = Y + d - 1 by rw [IntKind.wrap_i64]; omega, ← hX]
    clear hX hD D
    go_loopw [4, 5] (fun s i wr => ∃ (j x : Int), 1 ≤ j ∧ j ≤ m ∧ i = .int .i64 j ∧ s = .int .i64 x ∧ Hid (x = X + PDate.ma y j) ∧ Hid (Below w7.heap.size w7 wr)) (fun _ i _ => (m - intOf i).toNat)
    case atStart => exact ⟨1, X, by omega, m0, rfl, rfl, (show Hid (X = X + PDate.ma y 1) from (by rw [PDate.ma_first]; omega : X = X + PDate.ma y 1)), (show Hid _ from Below.refl _ _)⟩
    case round =>
      obtain ⟨j, x2, hj0, hj1, rfl, rfl, HX2, HB⟩ := hrel
      obtain ⟨c0, c1, c2⟩ := keep3 HB.out C7.out
      have hq0 := PDate.ma_mono (y := y) (m := 1) (k := j) (by omega) hj0 (by omega)
      have hq1 := PDate.ma_mono (y := y) (m := j) (k := 13) (by omega) (by omega) (by omega)
      rw [PDate.ma_first] at hq0
      rw [PDate.ma_all] at hq1
      have hlp := PDate.lp_cases y
      have hx2 := HX2.out
      have hx20 : 0 ≤ x2 := by omega
      have hx21 : x2 ≤ 500000 := by omega
      clear hq0 hq1 hlp hx2
      by_cases hjm : j < m
      · have hl1 := PDate.len_bounds y j
        have hnx := PDate.ma_next (y := y) (m := j) y0 y1 hj0 (by omega)
        obtain ⟨l, hl⟩ : ∃ l, PDate.len y j = l := ⟨_, rfl⟩
        rw [hl] at hl1 hnx
        have HX3 : Hid (x2 + l = X + PDate.ma y (j + 1)) := Lib.hid (by have := HX2.out; omega)
        obtain ⟨hl0, hl1⟩ := hl1
        clear hnx
        go_wp2_with fail
        refine (HL.out y j _).mono ?_
        rintro _ w8 ⟨rfl, b2⟩
        rw [hl]
        have B8 : Hid (Below w7.heap.size w7 w8) := Lib.hid (below_step HB.out b2)
        clear b2 hl
        go_wp2_with fail
        exact ⟨⟨j + 1, x2 + l, by omega, by omega, rfl, rfl, HX3, B8⟩, by simp [intOf]; omega⟩
      · obtain rfl : j = m := by omega
        have HF : Hid (x2 = PDate.num y j d) := Lib.hid (by rw [HN.out, HX2.out, HX.out]; omega)
        have B8 : Hid (Below w.heap.size w wr) := Lib.hid (below_step B7.out HB.out)
        go_wp2_with fail
        go_returns
        exact ⟨by rw [← HF.out]; rfl, B8.out⟩
  · rw [if_neg h, decide_eq_false h]
    rw [decide_eq_false h] at HR
    clear h
    go_enter Try.func10, Try.ntmps10
    go_wp2_with fail
    refine (HR.out _).mono ?_
    rintro _ w2 ⟨rfl, b⟩
    have B2 : Hid (Below w.heap.size w w2) := Lib.hid (below_step ((Below.refl _ _).alloc (Nat.le_refl _) _) b)
    clear b HR
    go_wp2_with fail
    go_returns
    exact ⟨rfl, B2.out⟩
theorem dnum_any (_ : I64 y) (_ : I64 m) (_ : I64 d) : Calls Try.prog 10 #[reD y m d] w fun e w' => e = .returned (.tuple #[.int .i64 (if PDate.ok y m d then PDate.num y m d else 0), .bool (decide (PDate.ok y m d))]) ∧ Below w.heap.size w w' := dnum_all y m d w

theorem dof_no (hn : I64 n) (h : n < 0 ∨ 401766 < n) : Calls Try.prog 18 #[.int .i64 n] w fun e w' => e = .returned (.tuple #[reD 0 0 0, .bool false]) ∧ Below w.heap.size w w' := by
  obtain ⟨n0, n1⟩ := hn
  rcases h with h | h
  · have g : decide (n < 0) = true := decide_eq_true h
    clear h
    go_enter Try.func18, Try.ntmps18
    go_wp2_with fail
    go_returns
    exact ⟨rfl, (Below.refl _ _).alloc (Nat.le_refl _) _⟩
  · have HA := Lib.hid (dahead_any 3000)
    have g : decide (n < 0) = false := decide_eq_false (by omega)
    go_enter Try.func18, Try.ntmps18
    go_wp2_with fail
    refine (HA.out _ (by omega) (by omega)).mono ?_
    rintro _ w2 ⟨rfl, b⟩
    rw [PDate.ya_last]
    have DA := Lib.hid ((D3.new w 23 0 0 0).on b)
    have B2 : Hid (Below w.heap.size w w2) := Lib.hid (below_step ((Below.refl _ _).alloc (Nat.le_refl _) _) b)
    obtain ⟨L, hL⟩ : ∃ L, L = w.heap.size := ⟨_, rfl⟩
    rw [← hL] at DA ⊢
    have HLw := Lib.hid hL
    have hlt : L < w2.heap.size := DA.out.lt
    clear b hL HA
    obtain ⟨c0, c1, c2⟩ := DA.out.1
    obtain ⟨f0, f1, f2⟩ := DA.out.2
    have k0 := ((DA.out.set0 0).set1 0).set2 0 |>.1.1
    have k1 := ((DA.out.set0 0).set1 0).set2 0 |>.1.2.1
    have k2 := ((DA.out.set0 0).set1 0).set2 0 |>.1.2.2
    have BE : Hid (Below w.heap.size w (((w2.setCell ⟨L, 0, none⟩ (.int .i64 0)).setCell ⟨L, 1, none⟩ (.int .i64 0)).setCell ⟨L, 2, none⟩ (.int .i64 0))) := Lib.hid (((B2.out.setCell (by have := HLw.out; simp; omega) _).setCell (by have := HLw.out; simp; omega) _).setCell (by have := HLw.out; simp; omega) _)
    clear DA B2
    go_wp2_with fail
    (try simp only [Exit.inBlock, Exit.then])
    refine bodyPost_ret (by simp [results, Try.results18, go_sem, k0, k1, k2]; try rfl) rfl ?_
    exact ⟨rfl, BE.out⟩

theorem ya_few : ∀ k : Nat, PDate.ya (1900 + (k : Int)) ≤ 366 * (k : Int) := by
  intro k
  induction k with
  | zero => exact Int.le_refl _
  | succ k ih =>
    have h := PDate.ya_next (1900 + (k : Int))
    have h2 := PDate.lp_cases (1900 + (k : Int))
    rw [show (1900 : Int) + ((k + 1 : Nat) : Int) = 1900 + (k : Int) + 1 by omega]
    omega
set_option maxHeartbeats 3200000 in
theorem dof_yes (h : PDate.ok y m d) : Calls Try.prog 18 #[.int .i64 (PDate.num y m d)] w fun e w' => e = .returned (.tuple #[reD y m d, .bool true]) ∧ Below w.heap.size w w' := by
  have HA : Hid (∀ y w, 1900 ≤ y → y ≤ 3000 → Calls Try.prog 21 #[.int .i64 y] w fun e w' => e = .returned (.int .i64 (PDate.ya y)) ∧ Below w.heap.size w w') := Lib.hid dahead_any
  have HL : Hid (∀ y m w, Calls Try.prog 14 #[.int .i64 y, .int .i64 m] w fun e w' => e = .returned (.int .i64 (PDate.len y m)) ∧ Below w.heap.size w w') := Lib.hid dlen_all
  obtain ⟨⟨y0, y1⟩, ⟨m0, m1⟩, d0, d1⟩ := PDate.ok_in h
  obtain ⟨q0, q1⟩ := PDate.num_range h
  have hy := PDate.num_year h
  have hm := PDate.num_month h
  have HD : Hid (d ≤ PDate.len y m) := Lib.hid h.2
  obtain ⟨n, hn⟩ : ∃ n, PDate.num y m d = n := ⟨_, rfl⟩
  have HN : Hid (n = PDate.ya y + PDate.ma y m + d - 1) := Lib.hid hn.symm
  rw [hn] at q0 q1 hy hm ⊢
  have hs : 1900 + n / 366 ≤ y := by
    have h9 := ya_few (y + 1 - 1900).toNat
    rw [show (1900 : Int) + ((y + 1 - 1900).toNat : Int) = y + 1 by omega] at h9
    omega
  have HY := Lib.hid hy
  clear hn h hm hy
  have g : decide (n < 0) = false := decide_eq_false (by omega)
  unfold reD
  go_enter Try.func18, Try.ntmps18
  go_wp2_with fail
  refine (HA.out 3000 _ (by omega) (by omega)).mono ?_
  rintro _ w2 ⟨rfl, b⟩
  rw [PDate.ya_last]
  have DA := Lib.hid ((D3.new w 23 0 0 0).on b)
  have B2 : Hid (Below w.heap.size w w2) := Lib.hid (below_step ((Below.refl _ _).alloc (Nat.le_refl _) _) b)
  obtain ⟨L, hL⟩ : ∃ L, L = w.heap.size := ⟨_, rfl⟩
  rw [← hL] at DA ⊢
  have HLw := Lib.hid hL
  clear b hL
  have hq : 0 ≤ n / 366 := by omega
  go_wp2_with fail
  have hlt : L < w2.heap.size := DA.out.lt
  go_loopw [4] (fun i wr => ∃ (k : Int), 1900 ≤ k ∧ k ≤ y ∧ i = .int .i64 k ∧ Hid (Below w2.heap.size w2 wr)) (fun i _ => (y - intOf i).toNat)
  case atStart => exact ⟨1900 + n / 366, by omega, hs, rfl, (show Hid _ from Below.refl _ _)⟩
  case round =>
    obtain ⟨k, hk0, hk1, rfl, HB⟩ := hrel
    clear hs hq
    have hy0 := PDate.ya_mono (show 1900 ≤ k + 1 by omega)
    have hy1 := PDate.ya_mono (show k + 1 ≤ 3000 by omega)
    rw [PDate.ya_first] at hy0; rw [PDate.ya_last] at hy1
    by_cases hky : k < y
    · have hup := PDate.ya_up hky
      have hy := HY.out
      obtain ⟨Y, hY⟩ : ∃ Y, PDate.ya (k + 1) = Y := ⟨_, rfl⟩
      rw [hY] at hup hy0 hy1
      have hYn : Y ≤ n := by omega
      clear hup hy
      go_wp2_with fail
      refine (HA.out (k + 1) _ (by omega) (by omega)).mono ?_
      rintro _ w3 ⟨rfl, b⟩
      rw [hY]
      have B3 := Lib.hid (below_step HB.out b)
      clear b hY
      go_wp2_with fail
      exact ⟨⟨k + 1, by omega, by omega, rfl, B3⟩, by simp [intOf]; omega⟩
    · obtain rfl : k = y := by omega
      have hyn := HY.out.2
      have hyn0 := HY.out.1
      obtain ⟨Y, hY⟩ : ∃ Y, PDate.ya (k + 1) = Y := ⟨_, rfl⟩
      rw [hY] at hyn hy0 hy1
      go_wp2_with fail
      refine (HA.out (k + 1) _ (by omega) (by omega)).mono ?_
      rintro _ w3 ⟨rfl, b⟩
      rw [hY]
      have B3 := Lib.hid (below_step HB.out b)
      clear b hY HB
      go_wp2_with fail
      clear hy0 hy1 hyn
      refine (HA.out k _ (by omega) (by omega)).mono ?_
      rintro _ w4 ⟨rfl, b⟩
      have B4 := Lib.hid (below_step B3.out b)
      clear b B3 w3
      have hma0 := PDate.ma_mono (y := k) (m := 1) (k := m) (by omega) m0 (by omega)
      have hma1 := PDate.ma_mono (y := k) (m := m) (k := 13) m0 (by omega) (by omega)
      have hlp := PDate.lp_cases k
      rw [PDate.ma_first] at hma0
      rw [PDate.ma_all] at hma1
      have hz0 := PDate.ya_mono hk0
      rw [PDate.ya_first] at hz0
      obtain ⟨Y, hY⟩ : ∃ Y, PDate.ya k = Y := ⟨_, rfl⟩
      rw [hY] at HN HY hz0 hyn0 ⊢
      obtain ⟨X, hX⟩ : ∃ X, n - Y + 1 = X := ⟨_, rfl⟩
      have HX : Hid (X = PDate.ma k m + d) := Lib.hid (by have := HN.out; omega)
      have hX0 : 1 ≤ X := by omega
      have hX1 : X ≤ 400 := by have := HX.out; omega
      clear hma0 hma1 hlp
      go_wp2_with fail
      (try rw [hX])
      clear hX hY HY HN hyn0 hz0
      go_loopw [5, 6] (fun x j wr => ∃ (b a : Int), 1 ≤ a ∧ a ≤ m ∧ x = .int .i64 b ∧ j = .int .i64 a ∧ Hid (b = PDate.ma k m + d - PDate.ma k a) ∧ Hid (Below w2.heap.size w2 wr)) (fun _ j _ => (m - intOf j).toNat)
      case atStart => exact ⟨X, 1, by omega, m0, rfl, rfl, (show Hid (X = PDate.ma k m + d - PDate.ma k 1) from (by rw [PDate.ma_first]; have := HX.out; omega : X = PDate.ma k m + d - PDate.ma k 1)), B4⟩
      case round =>
        obtain ⟨b, a, ha0, ha1, rfl, rfl, HX2, HB⟩ := hrel
        have hq0 := PDate.ma_mono (y := k) (m := 1) (k := a) (by omega) ha0 (by omega)
        have hq1 := PDate.ma_mono (y := k) (m := m) (k := 13) (by omega) (by omega) (by omega)
        have hq2 := PDate.ma_mono (y := k) (m := a) (k := m) (by omega) (by omega) (by omega)
        have hlp := PDate.lp_cases k
        rw [PDate.ma_first] at hq0
        rw [PDate.ma_all] at hq1
        have hx2 := HX2.out
        have hb0 : 1 ≤ b := by omega
        have hb1 : b ≤ 400 := by omega
        clear hq0 hq1 hq2 hlp hx2 B4 w4
        have hl1 := PDate.len_bounds k a
        by_cases ham : a < m
        · have hnx := PDate.ma_next (y := k) (m := a) y0 y1 ha0 (by omega)
          have hmm := PDate.ma_mono (y := k) (m := a + 1) (k := m) (by omega) (by omega) (by omega)
          obtain ⟨l, hl⟩ : ∃ l, PDate.len k a = l := ⟨_, rfl⟩
          rw [hl] at hl1 hnx
          have HX3 : Hid (b - l = PDate.ma k m + d - PDate.ma k (a + 1)) := Lib.hid (by have := HX2.out; omega)
          have hlb : l < b := by have := HX2.out; omega
          obtain ⟨hl0, hl1⟩ := hl1
          clear hnx hmm
          go_wp2_with fail
          refine (HL.out k a _).mono ?_
          rintro _ w8 ⟨rfl, b2⟩
          rw [hl]
          have B8 : Hid (Below w2.heap.size w2 w8) := Lib.hid (below_step HB.out b2)
          clear b2
          go_wp2_with fail
          refine (HL.out k a _).mono ?_
          rintro _ w9 ⟨rfl, b2⟩
          rw [hl]
          have B9 : Hid (Below w2.heap.size w2 w9) := Lib.hid (below_step B8.out b2)
          clear b2 hl B8 w8
          go_wp2_with fail
          exact ⟨⟨b - l, a + 1, by omega, by omega, rfl, rfl, HX3, B9⟩, by simp [intOf]; omega⟩
        · obtain rfl : a = m := by omega
          obtain rfl : b = d := by have := HX2.out; omega
          have hd := HD.out
          obtain ⟨l, hl⟩ : ∃ l, PDate.len k a = l := ⟨_, rfl⟩
          rw [hl] at hl1 hd
          go_wp2_with fail
          refine (HL.out k a _).mono ?_
          rintro _ w8 ⟨rfl, b2⟩
          rw [hl]
          have B8 : Hid (Below w2.heap.size w2 w8) := Lib.hid (below_step HB.out b2)
          have D8 := Lib.hid (DA.out.on B8.out)
          have BW := Lib.hid (below_step B2.out B8.out)
          have hlt8 : L < w8.heap.size := D8.out.lt
          clear b2 hl HB DA B2 B8 HA HL
          obtain ⟨c0, c1, c2⟩ := D8.out.1
          obtain ⟨f0, f1, f2⟩ := D8.out.2
          have k0 := ((D8.out.set0 k).set1 a).set2 b |>.1.1
          have k1 := ((D8.out.set0 k).set1 a).set2 b |>.1.2.1
          have k2 := ((D8.out.set0 k).set1 a).set2 b |>.1.2.2
          have BE : Hid (Below w.heap.size w (((w8.setCell ⟨L, 0, none⟩ (.int .i64 k)).setCell ⟨L, 1, none⟩ (.int .i64 a)).setCell ⟨L, 2, none⟩ (.int .i64 b))) := Lib.hid (((BW.out.setCell (by have := HLw.out; simp; omega) _).setCell (by have := HLw.out; simp; omega) _).setCell (by have := HLw.out; simp; omega) _)
          clear D8 BW
          go_wp2_with fail
          (try simp only [Exit.inBlock, Exit.then])
          refine bodyPost_ret (by simp [results, Try.results18, go_sem, k0, k1, k2]; try rfl) rfl ?_
          exact ⟨rfl, BE.out⟩
set_option maxHeartbeats 1600000 in
theorem dper_any (_ : I64 y) (_ : I64 m) (_ : I64 d) : Calls Try.prog 11 #[reD y m d] w fun e w' => e = .returned (.tuple #[.int .i64 (if PDate.ok y m d then 12 * y + m - 1 else 0), .bool (decide (PDate.ok y m d))]) ∧ Below w.heap.size w w' := by
  have HR : Hid (∀ w, Calls Try.prog 13 #[.agg #[.int .i64 y, .int .i64 m, .int .i64 d]] w fun e w' => e = .returned (.bool (decide (PDate.ok y m d))) ∧ Below w.heap.size w w') := Lib.hid (dright_all y m d)
  unfold reD
  by_cases h : PDate.ok y m d
  · rw [if_pos h, decide_eq_true h]
    rw [decide_eq_true h] at HR
    obtain ⟨⟨y0, y1⟩, ⟨m0, m1⟩, d0, d1⟩ := PDate.ok_in h
    clear h
    go_enter Try.func11, Try.ntmps11
    go_wp2_with fail
    obtain ⟨w1, hw1⟩ : ∃ w1, w1 = w.alloc (.cells #[.int .i64 y, .int .i64 m, .int .i64 d] 23) := ⟨_, rfl⟩
    rw [← hw1]
    have CA : Hid (w1.cell? ⟨w.heap.size, 0, none⟩ = some (.int .i64 y) ∧ w1.cell? ⟨w.heap.size, 1, none⟩ = some (.int .i64 m) ∧ w1.cell? ⟨w.heap.size, 2, none⟩ = some (.int .i64 d)) := Lib.hid (by rw [hw1]; refine ⟨?_, ?_, ?_⟩ <;> go_simp)
    have B1 : Hid (Below w.heap.size w w1) := Lib.hid (by rw [hw1]; exact (Below.refl _ _).alloc (Nat.le_refl _) _)
    obtain ⟨L, hL⟩ : ∃ L, L = w.heap.size := ⟨_, rfl⟩
    rw [← hL] at CA ⊢
    clear hw1 hL
    refine (HR.out _).mono ?_
    rintro _ w2 ⟨rfl, b⟩
    have B2 := Lib.hid (below_step B1.out b)
    obtain ⟨c0, c1, c2⟩ := keep3 b CA.out
    clear b CA B1 w1 HR
    go_wp2_with fail
    go_returns
    exact ⟨rfl, B2.out⟩
  · rw [if_neg h, decide_eq_false h]
    rw [decide_eq_false h] at HR
    clear h
    go_enter Try.func11, Try.ntmps11
    go_wp2_with fail
    refine (HR.out _).mono ?_
    rintro _ w2 ⟨rfl, b⟩
    have B2 : Hid (Below w.heap.size w w2) := Lib.hid (below_step ((Below.refl _ _).alloc (Nat.le_refl _) _) b)
    clear b HR
    go_wp2_with fail
    go_returns
    exact ⟨rfl, B2.out⟩

set_option maxHeartbeats 3200000 in
theorem ddays_all (y m d y' m' d' p : Int) (w : World) (hp : I64 p) : Calls Try.prog 20 #[reD y m d, reD y' m' d', .int .i64 p] w fun e w' => e = .returned (.int .i64 (PDate.days y m d y' m' d' p)) ∧ Below w.heap.size w w' := by
  have HN : Hid (∀ y m d w, Calls Try.prog 10 #[.agg #[.int .i64 y, .int .i64 m, .int .i64 d]] w fun e w' => e = .returned (.tuple #[.int .i64 (if PDate.ok y m d then PDate.num y m d else 0), .bool (decide (PDate.ok y m d))]) ∧ Below w.heap.size w w') := Lib.hid dnum_all
  have HL : Hid (∀ y m w, Calls Try.prog 14 #[.int .i64 y, .int .i64 m] w fun e w' => e = .returned (.int .i64 (PDate.len y m)) ∧ Below w.heap.size w w') := Lib.hid dlen_all
  obtain ⟨p0, p1⟩ := hp
  unfold reD
  have hn1 : (if PDate.ok y m d then PDate.num y m d else 0) ≤ 401766 ∧ 0 ≤ (if PDate.ok y m d then PDate.num y m d else 0) := by
    split
    · rename_i h; have := PDate.num_range h; omega
    · omega
  have hn2 : (if PDate.ok y' m' d' then PDate.num y' m' d' else 0) ≤ 401766 ∧ 0 ≤ (if PDate.ok y' m' d' then PDate.num y' m' d' else 0) := by
    split
    · rename_i h; have := PDate.num_range h; omega
    · omega
  obtain ⟨N1, hN1⟩ : ∃ N, (if PDate.ok y m d then PDate.num y m d else 0) = N := ⟨_, rfl⟩
  obtain ⟨N2, hN2⟩ : ∃ N, (if PDate.ok y' m' d' then PDate.num y' m' d' else 0) = N := ⟨_, rfl⟩
  obtain ⟨o1, ho1⟩ : ∃ o, decide (PDate.ok y m d) = o := ⟨_, rfl⟩
  obtain ⟨o2, ho2⟩ : ∃ o, decide (PDate.ok y' m' d') = o := ⟨_, rfl⟩
  rw [hN1] at hn1; rw [hN2] at hn2
  obtain ⟨n10, n11⟩ := hn1
  obtain ⟨n20, n21⟩ := hn2
  have HN1 : Hid (∀ w, Calls Try.prog 10 #[.agg #[.int .i64 y, .int .i64 m, .int .i64 d]] w fun e w' => e = .returned (.tuple #[.int .i64 N1, .bool o1]) ∧ Below w.heap.size w w') := Lib.hid (fun w => by rw [← hN1, ← ho1]; exact dnum_all y m d w)
  have HN2 : Hid (∀ w, Calls Try.prog 10 #[.agg #[.int .i64 y', .int .i64 m', .int .i64 d']] w fun e w' => e = .returned (.tuple #[.int .i64 N2, .bool o2]) ∧ Below w.heap.size w w') := Lib.hid (fun w => by rw [← hN2, ← ho2]; exact dnum_all y' m' d' w)
  have H1 := Lib.hid hN1; have H2 := Lib.hid hN2; have H3 := Lib.hid ho1; have H4 := Lib.hid ho2
  clear hN1 hN2 ho1 ho2
  go_enter Try.func20, Try.ntmps20
  go_wp2_with fail
  obtain ⟨w1, hw1⟩ : ∃ w1, w1 = (w.alloc (.cells #[.int .i64 y, .int .i64 m, .int .i64 d] 23)).alloc (.cells #[.int .i64 y', .int .i64 m', .int .i64 d'] 23) := ⟨_, rfl⟩
  rw [← hw1]
  obtain ⟨L, hL⟩ : ∃ L, L = w.heap.size := ⟨_, rfl⟩
  have DB : Hid (D3 w1 (L + 1) y' m' d') := Lib.hid (by rw [hw1, hL]; have := D3.new (w.alloc (.cells #[.int .i64 y, .int .i64 m, .int .i64 d] 23)) 23 y' m' d'; simpa using this)
  have B1 : Hid (Below w.heap.size w w1) := Lib.hid (by rw [hw1]; exact ((Below.refl _ _).alloc (Nat.le_refl _) _).alloc (by simp) _)
  rw [← hL] at ⊢
  clear hw1 hL
  refine (HN1.out _).mono ?_
  rintro _ w2 ⟨rfl, b⟩
  obtain ⟨c0, c1, c2⟩ := (DB.out.on b).1
  have B2 := Lib.hid (below_step B1.out b)
  clear b DB B1 w1
  go_wp2_with fail
  refine (HN2.out _).mono ?_
  rintro _ w3 ⟨rfl, b⟩
  have B3 := Lib.hid (below_step B2.out b)
  clear b B2 c0 c1 c2 w2 HN1 HN2
  by_cases hp0 : 0 ≤ p
  · have hq0 : 0 ≤ p / 12 ∧ p / 12 ≤ 768614336404564650 ∧ 0 ≤ p % 12 ∧ p % 12 < 12 := by omega
    have HO : Hid (decide (PDate.ok (p / 12) (p % 12 + 1) 1) = decide (PDate.pOk p)) := Lib.hid (by
      refine decide_eq_decide.2 ⟨fun h => ?_, fun h => ?_⟩
      · have := PDate.ok_in h; unfold PDate.pOk; omega
      · unfold PDate.pOk at h; exact PDate.first_ok (by omega) (by omega) (by omega) (by omega))
    have HE1 : Hid (PDate.pOk p → PDate.num (p / 12) (p % 12 + 1) 1 = PDate.lo p) := Lib.hid (fun h => by unfold PDate.lo; rw [if_pos h])
    have HE2 : Hid (PDate.pOk p → PDate.num (p / 12) (p % 12 + 1) 1 + PDate.len (p / 12) (p % 12 + 1) - 1 = PDate.hi p) := Lib.hid (fun h => by unfold PDate.hi; rw [if_pos h]; unfold PDate.num; omega)
    have HE3 : Hid (PDate.pOk p → 0 ≤ PDate.num (p / 12) (p % 12 + 1) 1 ∧ PDate.num (p / 12) (p % 12 + 1) 1 ≤ 401766) := Lib.hid (fun h => PDate.num_range (of_decide_eq_true (HO.out.trans (decide_eq_true h))))
    have hlb := PDate.len_bounds (p / 12) (p % 12 + 1)
    obtain ⟨l, hl⟩ : ∃ l, PDate.len (p / 12) (p % 12 + 1) = l := ⟨_, rfl⟩
    rw [hl] at hlb HE2
    obtain ⟨hl0, hl1⟩ := hlb
    have HLL := Lib.hid hl
    clear hl
    go_wp2_with fail
    refine (HN.out _ _ _ _).mono ?_
    rintro _ w4 ⟨rfl, b⟩
    have B4 := Lib.hid (below_step B3.out b)
    clear b B3 w3
    by_cases hpk : PDate.pOk p
    · have HE1 := HE1.out hpk
      have HE2 := HE2.out hpk
      obtain ⟨r0, r1⟩ := HE3.out hpk
      have ho := HO.out.trans (decide_eq_true hpk)
      rw [if_pos (of_decide_eq_true ho), ho]
      obtain ⟨b, hb⟩ : ∃ b, PDate.num (p / 12) (p % 12 + 1) 1 = b := ⟨_, rfl⟩
      rw [hb] at HE1 HE2 r0 r1 ⊢
      have E1 := Lib.hid HE1; have E2 := Lib.hid HE2; have PK := Lib.hid hpk
      clear HE1 HE2 ho hpk hb HE3 HO
      rcases o1 with _ | _
      · have HF : Hid (PDate.days y m d y' m' d' p = 0) := Lib.hid (by unfold PDate.days; rw [if_neg (fun h => of_decide_eq_false H3.out h.1)])
        clear H3
        go_wp2_with fail
        go_ret
        exact ⟨by rw [HF.out]; rfl, B4.out⟩
      · rcases o2 with _ | _
        · have HF : Hid (PDate.days y m d y' m' d' p = 0) := Lib.hid (by unfold PDate.days; rw [if_neg (fun h => of_decide_eq_false H4.out h.2)])
          clear H4
          go_wp2_with fail
          go_ret
          exact ⟨by rw [HF.out]; rfl, B4.out⟩
        · have HF : Hid (PDate.days y m d y' m' d' p = max 0 (min N2 (b + l - 1) - max N1 b + 1)) := Lib.hid (by
            have k1 := of_decide_eq_true H3.out; have k2 := of_decide_eq_true H4.out
            have e1 := H1.out; have e2 := H2.out
            rw [if_pos k1] at e1; rw [if_pos k2] at e2
            rw [PDate.days_ok k1 k2, e1, e2]
            unfold PDate.cnt; rw [← E1.out, ← E2.out])
          clear H1 H2 H3 H4 E1 E2 PK
          go_wp2_with fail
          refine (HL.out _ _ _).mono ?_
          rintro _ w5 ⟨rfl, b5⟩
          rw [HLL.out]
          have B5 := Lib.hid (below_step B4.out b5)
          clear b5 B4 w4
          go_wp2_with fail
          all_goals
            go_ret
            refine ⟨congrArg Ending.returned ?_, B5.out⟩
            rw [HF.out]
            refine Eq.trans rfl (congrArg (Value.int .i64) (a₁ := _) ?_)
            omega
    · have ho := HO.out.trans (decide_eq_false hpk)
      rw [if_neg (of_decide_eq_false ho), ho]
      have HF : Hid (PDate.days y m d y' m' d' p = 0) := Lib.hid (by
        unfold PDate.days; split
        · rename_i h
          have := PDate.num_range h.1; have := PDate.num_range h.2
          unfold PDate.cnt PDate.lo PDate.hi; rw [if_neg hpk, if_neg hpk]; omega
        · rfl)
      clear HE1 HE2 HE3 HO ho H1 H2 H3 H4 hpk
      rcases o1 with _ | _
      all_goals rcases o2 with _ | _
      all_goals
        go_wp2_with fail
        go_ret
        exact ⟨by rw [HF.out]; rfl, B4.out⟩
  · go_wp2_with fail
    refine (HN.out _ _ _ _).mono ?_
    rintro _ w4 ⟨rfl, b⟩
    have B4 := Lib.hid (below_step B3.out b)
    clear b B3 w3
    have hq : p.tdiv 12 ≤ 0 := by
      rw [show p = -(-p) by omega, Int.neg_tdiv, Int.tdiv_eq_ediv_of_nonneg (by omega)]
      omega
    have ho : ∀ x, ¬ PDate.ok (p.tdiv 12) x 1 := fun x h => by have := PDate.ok_in h; omega
    have hpk : ¬ PDate.pOk p := by unfold PDate.pOk; omega
    rw [if_neg (ho _), decide_eq_false (ho _)]
    have HF : Hid (PDate.days y m d y' m' d' p = 0) := Lib.hid (by
      unfold PDate.days; split
      · rename_i h
        have := PDate.num_range h.1; have := PDate.num_range h.2
        unfold PDate.cnt PDate.lo PDate.hi; rw [if_neg hpk, if_neg hpk]; omega
      · rfl)
    clear ho H1 H2 H3 H4 hpk hq
    rcases o1 with _ | _
    all_goals rcases o2 with _ | _
    all_goals
      go_wp2_with fail
      go_ret
      exact ⟨by rw [HF.out]; rfl, B4.out⟩
theorem ddays_any (_ : I64 y) (_ : I64 m) (_ : I64 d) (_ : I64 y') (_ : I64 m') (_ : I64 d') (hp : I64 p) : Calls Try.prog 20 #[reD y m d, reD y' m' d', .int .i64 p] w fun e w' => e = .returned (.int .i64 (PDate.days y m d y' m' d' p)) ∧ Below w.heap.size w w' := ddays_all y m d y' m' d' p w hp
end Go.Proofs.Ytanciheeobgngaa
