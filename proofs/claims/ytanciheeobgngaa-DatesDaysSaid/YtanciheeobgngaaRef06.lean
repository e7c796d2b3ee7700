/-
  What the reference of layer 6 answers: whether it is a date, numbers, the day behind.
-/
import Derived.Test.YtanciheeobgngaaRef06Len
import Derived.Deep.RegionHeld3
namespace Go.Proofs.Ytanciheeobgngaa
open Go.RowKit

set_option maxHeartbeats 1600000 in
theorem refright_any (y m d : Int) (w : World) :
    Calls Try.prog 12 #[reD y m d] w fun e w' => e = .returned (.bool (decide (PDate.ok y m d))) ∧ Below w.heap.size w w' := by
  have HL : Hid (∀ w, Calls Try.prog 15 #[.int .i64 y, .int .i64 m] w fun e w' => e = .returned (.int .i64 (PDate.len y m)) ∧ Below w.heap.size w w') := Lib.hid (reflen_any y m)
  unfold reD
  by_cases h0 : 0 < d
  · have g0 : decide (0 < d) = true := decide_eq_true h0
    obtain ⟨L, hL⟩ : ∃ L, PDate.len y m = L := ⟨_, rfl⟩
    have HR : Hid (decide (PDate.ok y m d) = decide (d ≤ L)) := Lib.hid (by
      rw [← hL]; unfold PDate.ok; simp [h0])
    rw [hL] at HL
    clear hL
    go_enter Try.func12, Try.ntmps12
    go_wp2_with fail
    go_region_held3 (fun w' => w'.cell? ⟨w.heap.size, 0, none⟩ = some (.int .i64 y) ∧ w'.cell? ⟨w.heap.size, 1, none⟩ = some (.int .i64 m) ∧ w'.cell? ⟨w.heap.size, 2, none⟩ = some (.int .i64 d))
      (first
        | go_keep
        | (refine ⟨?_, ?_, ?_⟩ <;> exact (hb7.cell (by simp)).trans (by go_simp)))
      (first
        | (go_at_call 15; refine (HL.out _).mono ?_; rintro _ w7 ⟨rfl, hb7⟩))
    all_goals
      have B7 : Hid (Below w.heap.size w w7) := Lib.hid (below_step (by repeat' (first | exact Below.refl _ _ | apply Below.drew | (refine Below.alloc ?_ ?_ _) | (simp; done) | (simp; omega))) hb7)
      clear hb7
      go_wp2_with fail
      go_ret
      exact ⟨by rw [HR.out]; rfl, B7.out⟩
  · have g0 : decide (0 < d) = false := decide_eq_false h0
    have HR : Hid (decide (PDate.ok y m d) = false) := Lib.hid (by unfold PDate.ok; simp [h0])
    clear HL h0
    go_enter Try.func12, Try.ntmps12
    go_wp2_with fail
    go_big_quiet (fail)
    go_wp2_with fail
    go_ret
    exact ⟨by rw [HR.out]; rfl, below_drewN' ((Below.refl _ _).alloc (Nat.le_refl _) _) _⟩

set_option maxHeartbeats 1600000 in
theorem refnum_any (y m d : Int) (w : World) (h : PDate.ok y m d) :
    Calls Try.prog 17 #[reD y m d] w fun e w' => e = .returned (.int .i64 (PDate.num y m d)) ∧ Below w.heap.size w w' := by
  have HL : Hid (∀ y m w, Calls Try.prog 15 #[.int .i64 y, .int .i64 m] w fun e w' => e = .returned (.int .i64 (PDate.len y m)) ∧ Below w.heap.size w w') := Lib.hid reflen_any
  obtain ⟨⟨y0, y1⟩, ⟨m0, m1⟩, d0, d1⟩ := PDate.ok_in h
  have HN : Hid (PDate.num y m d = PDate.ya y + PDate.ma y m + d - 1) := Lib.hid rfl
  clear h
  unfold reD
  go_enter Try.func17, Try.ntmps17
  go_wp2_with fail
  obtain ⟨w1, hw1⟩ : ∃ w1, w1 = w.alloc (.cells #[.int .i64 y, .int .i64 m, .int .i64 d] 24) := ⟨_, rfl⟩
  rw [← hw1]
  have CY : Hid (w1.cell? ⟨w.heap.size, 0, none⟩ = some (.int .i64 y)) := Lib.hid (by rw [hw1]; go_simp)
  have CM : Hid (w1.cell? ⟨w.heap.size, 1, none⟩ = some (.int .i64 m)) := Lib.hid (by rw [hw1]; go_simp)
  have B1 : Hid (Below w.heap.size w w1) := Lib.hid (by rw [hw1]; exact (Below.refl _ _).alloc (Nat.le_refl _) _)
  obtain ⟨L, hL⟩ : ∃ L, L = w.heap.size := ⟨_, rfl⟩
  have hlt : L < w1.heap.size := by rw [hw1, hL]; simp
  rw [← hL] at CY CM ⊢
  have HLw := Lib.hid hL
  clear hw1 hL
  obtain ⟨D, hD⟩ : ∃ D, D = d - 1 := ⟨_, rfl⟩
  have hD0 : 0 ≤ D := by omega
  have hD1 : D ≤ 30 := by omega
  have HDD := Lib.hid hD
  rw [← hD]
  clear hD d0 d1
  go_loopw [3, 4] (fun s i wr => ∃ (k x : Int), 1900 ≤ k ∧ k ≤ y ∧ i = .int .i64 k ∧ s = .int .i64 x ∧ Hid (x = D + PDate.ya k) ∧ Hid (Below w1.heap.size w1 wr)) (fun _ i _ => (y - intOf i).toNat)
  case atStart => exact ⟨1900, D, by omega, y0, rfl, rfl, (show Hid (D = D + PDate.ya 1900) from (by rw [PDate.ya_first]; omega : D = D + PDate.ya 1900)), (show Hid _ from Below.refl _ _)⟩
  case round =>
    obtain ⟨k, x, hk0, hk1, rfl, rfl, HX, HB⟩ := hrel
    have cy := (HB.out.cell (World.block_lt_of_cell? w1 _ CY.out)).trans CY.out
    by_cases hky : k < y
    · have hm1 := PDate.ya_mono hk0
      have hm2 := PDate.ya_mono (show k ≤ 3000 by omega)
      rw [PDate.ya_first] at hm1; rw [PDate.ya_last] at hm2
      have hx := HX.out
      have hx0 : 0 ≤ x := by omega
      have hx1 : x ≤ 500000 := by omega
      have hle : PDate.len k 2 = 28 + PDate.lp k := by rw [PDate.len_in hk0 (by omega) (by omega) (by omega), if_pos rfl]
      have hlp := PDate.lp_cases k
      obtain ⟨l, hl⟩ : ∃ l, PDate.len k 2 = l := ⟨_, rfl⟩
      have HX2 : Hid (x + (337 + l) = D + PDate.ya (k + 1)) := Lib.hid (by rw [PDate.ya_next]; omega)
      have hl0 : 28 ≤ l := by omega
      have hl1 : l ≤ 29 := by omega
      clear hm1 hm2 hx hle hlp
      go_wp2_with fail
      refine (HL.out k 2 _).mono ?_
      rintro _ w2 ⟨rfl, b2⟩
      rw [hl]
      have B2 : Hid (Below w1.heap.size w1 w2) := Lib.hid (below_step HB.out b2)
      clear b2 hl
      go_wp2_with fail
      exact ⟨⟨k + 1, x + (337 + l), by omega, by omega, rfl, rfl, HX2, B2⟩, by simp [intOf]; omega⟩
    · obtain rfl : k = y := by omega
      obtain ⟨w3, hw3⟩ : ∃ w3, w3 = wr := ⟨_, rfl⟩
      subst hw3
      have hm1 := PDate.ya_mono hk0
      have hm2 := PDate.ya_mono (show k ≤ 2999 by omega)
      rw [PDate.ya_first] at hm1
      rw [show PDate.ya 2999 = 401402 from rfl] at hm2
      have hx0 : 0 ≤ x := by have := HX.out; omega
      have hx1 : x ≤ 450000 := by have := HX.out; omega
      go_wp2_with fail
      clear cy
      go_loopw [3, 5] (fun s i wr => ∃ (j x : Int), 1 ≤ j ∧ j ≤ m ∧ i = .int .i64 j ∧ s = .int .i64 x ∧ Hid (x = D + PDate.ya k + PDate.ma k j) ∧ Hid (Below w1.heap.size w1 wr)) (fun _ i _ => (m - intOf i).toNat)
      case atStart => exact ⟨1, x, by omega, m0, rfl, rfl, (show Hid (x = D + PDate.ya k + PDate.ma k 1) from (by rw [PDate.ma_first]; have := HX.out; omega : x = D + PDate.ya k + PDate.ma k 1)), HB⟩
      case round =>
        clear HB
        obtain ⟨j, x2, hj0, hj1, rfl, rfl, HX2, HB⟩ := hrel
        have cy := (HB.out.cell (World.block_lt_of_cell? w1 _ CY.out)).trans CY.out
        have cm := (HB.out.cell (World.block_lt_of_cell? w1 _ CM.out)).trans CM.out
        have hq0 := PDate.ma_mono (y := k) (m := 1) (k := j) (by omega) hj0 (by omega)
        have hq1 := PDate.ma_mono (y := k) (m := j) (k := 13) (by omega) (by omega) (by omega)
        rw [PDate.ma_first] at hq0
        rw [PDate.ma_all] at hq1
        have hlp := PDate.lp_cases k
        have hx2 := HX2.out
        have hx20 : 0 ≤ x2 := by omega
        have hx21 : x2 ≤ 500000 := by omega
        clear hq0 hq1 hlp hx2 hx0 hx1
        by_cases hjm : j < m
        · have hl1 := PDate.len_bounds k j
          have hnx := PDate.ma_next (y := k) (m := j) y0 y1 hj0 (by omega)
          obtain ⟨l, hl⟩ : ∃ l, PDate.len k j = l := ⟨_, rfl⟩
          rw [hl] at hl1 hnx
          have HX3 : Hid (x2 + l = D + PDate.ya k + PDate.ma k (j + 1)) := Lib.hid (by have := HX2.out; omega)
          obtain ⟨hl0, hl1⟩ := hl1
          clear hnx
          go_wp2_with fail
          refine (HL.out k j _).mono ?_
          rintro _ w2 ⟨rfl, b2⟩
          rw [hl]
          have B2 : Hid (Below w1.heap.size w1 w2) := Lib.hid (below_step HB.out b2)
          clear b2 hl
          go_wp2_with fail
          exact ⟨⟨j + 1, x2 + l, by omega, by omega, rfl, rfl, HX3, B2⟩, by simp [intOf]; omega⟩
        · obtain rfl : j = m := by omega
          have HF : Hid (x2 = PDate.num k j d) := Lib.hid (by rw [HN.out, HX2.out, HDD.out]; omega)
          have B2 : Hid (Below w.heap.size w wr) := Lib.hid (below_step B1.out HB.out)
          go_wp2_with fail
          go_ret
          exact ⟨by rw [← HF.out]; rfl, B2.out⟩
end Go.Proofs.Ytanciheeobgngaa
