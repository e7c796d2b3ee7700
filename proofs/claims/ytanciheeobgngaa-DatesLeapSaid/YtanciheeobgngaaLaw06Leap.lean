/-
  DatesLeap: 97 years of each 400 have 366 days; others 365; a year and its 400th one behind are alike.
-/
import Derived.Test.YtanciheeobgngaaLaw06Awake
import Derived.Deep.DeepCutAuto
namespace Go.Proofs.Ytanciheeobgngaa
open Go.RowKit

theorem lp_again (y : Int) : PDate.lp (y + 400) = PDate.lp y := by
  unfold PDate.lp
  rw [show (y + 400) % 400 = y % 400 by omega, show (y + 400) % 4 = y % 4 by omega, show (y + 400) % 100 = y % 100 by omega]
theorem ya_again (y : Int) : PDate.ya (y + 400) = PDate.ya y + 365 * 400 + 97 := by unfold PDate.ya; omega

set_option maxHeartbeats 3200000 in
set_option maxRecDepth 100000 in
theorem dleap_in (u r y : Int) (w : World) (u0 : 0 ≤ u) (u1 : u ≤ 65535) (hr : u.tmod 700 = r) (hy : 1900 + r = y) (y0 : 1900 ≤ y) (y1 : y ≤ 2599) :
    Calls Try.prog 9 #[.int .u16 u] w fun e w' => e = .returned (.bool true) ∧ Below w.heap.size w w' := by
  have CL : Hid (∀ y m w, I64 y → I64 m → Calls Try.prog 14 #[.int .i64 y, .int .i64 m] w fun e w' => e = .returned (.int .i64 (PDate.len y m)) ∧ Below w.heap.size w w') := Lib.hid (fun y m w hy hm => dlen_any hy hm)
  have r0 : 0 ≤ r := by omega
  have r1 : r ≤ 699 := by omega
  go_enter Try.func9, Try.ntmps9
  go_wp2_with fail
  go_loopw [4, 12] (fun s i wr => ∃ (k x : Int), 0 ≤ k ∧ k ≤ 400 ∧ i = .int .i64 k ∧ s = .int .i64 x ∧ 0 ≤ x ∧ x ≤ k ∧ Hid (PDate.ya (y + k) = PDate.ya y + 365 * k + x) ∧ Hid (Below w.heap.size w wr)) (fun _ i _ => (400 - intOf i).toNat)
  case atStart => exact ⟨0, 0, by omega, by omega, rfl, rfl, by omega, by omega, (show Hid (PDate.ya (y + 0) = PDate.ya y + 365 * 0 + 0) from (by rw [Int.add_zero]; omega : PDate.ya (y + 0) = PDate.ya y + 365 * 0 + 0)), (show Hid _ from Below.refl _ _)⟩
  case round =>
    obtain ⟨k, x, hk0, hk1, rfl, rfl, hx0, hx1, HX, HB⟩ := hrel
    by_cases hlt : k < 400
    · go_wp2_with fail
      obtain ⟨w2, hw2⟩ : ∃ w2, w2 = wr := ⟨_, rfl⟩
      subst hw2
      obtain ⟨z, hz⟩ : ∃ z, y + k = z := ⟨_, rfl⟩
      have z0 : 1900 ≤ z := by omega
      have z1 : z ≤ 2998 := by omega
      have HZ := Lib.hid (PDate.ya_next z)
      have HX2 := HX.out
      rw [hz] at HX2
      have HXX := Lib.hid HX2
      have HZZ := Lib.hid hz
      clear HX HX2
      go_loopw [6, 7] (fun s i wi => ∃ (j v : Int), 1 ≤ j ∧ j ≤ 13 ∧ i = .int .i64 j ∧ s = .int .i64 v ∧ Hid (v = PDate.ma z j) ∧ 0 ≤ v ∧ v ≤ 366 ∧ Hid (Below w.heap.size w wi)) (fun _ i _ => (13 - intOf i).toNat)
      case atStart => exact ⟨1, 0, by omega, by omega, rfl, rfl, (show Hid ((0 : Int) = PDate.ma z 1) from (by rw [PDate.ma_first] : (0 : Int) = PDate.ma z 1)), by omega, by omega, HB⟩
      case round =>
        clear HB
        obtain ⟨j, v, hj0, hj1, rfl, rfl, HV, hv0, hv1, HB⟩ := hrel
        by_cases hj : j ≤ 12
        · have hnx := PDate.ma_next (y := z) (m := j) z0 (by omega) hj0 hj
          have hq1 := PDate.ma_mono (y := z) (m := j + 1) (k := 13) (by omega) (by omega) (by omega)
          rw [PDate.ma_all] at hq1
          have hlp := PDate.lp_cases z
          have hlb := PDate.len_bounds z j
          have hc := CL.out z j
          obtain ⟨l, hl⟩ : ∃ l, PDate.len z j = l := ⟨_, rfl⟩
          rw [hl] at hnx hc hlb
          have HV2 : Hid (v + l = PDate.ma z (j + 1)) := Lib.hid (by have := HV.out; omega)
          have hv2 : v + l ≤ 366 := by have := HV2.out; omega
          have HCC := Lib.hid (fun w => hc w (by unfold I64; omega) (by unfold I64; omega))
          obtain ⟨l0, l1⟩ := hlb
          clear hnx hq1 hlp hc hl
          go_wp2_with fail
          refine (HCC.out _).mono ?_
          rintro _ w3 ⟨rfl, b3⟩
          have B3 := Lib.hid (below_step HB.out b3)
          clear b3 HB
          go_wp2_with fail
          exact ⟨⟨j + 1, v + l, by omega, by omega, rfl, rfl, HV2, by omega, hv2, B3⟩, by simp [intOf]; omega⟩
        · obtain rfl : j = 13 := by omega
          have hv := HV.out
          rw [PDate.ma_all] at hv
          have hxx := HXX.out; have hzz := HZ.out
          rcases PDate.lp_cases z with hlp | hlp
          · obtain rfl : v = 365 := by omega
            have HN : Hid (PDate.ya (y + (k + 1)) = PDate.ya y + 365 * (k + 1) + x) := Lib.hid (by
              rw [show y + (k + 1) = z + 1 by have := HZZ.out; omega]; omega)
            clear hv hxx hzz hlp hz
            go_wp2_with fail
            exact ⟨⟨k + 1, x, by omega, by omega, rfl, by first | rfl | (congr 1; omega), by omega, by omega, HN, HB⟩, by simp [intOf]; omega⟩
          · obtain rfl : v = 366 := by omega
            have HN : Hid (PDate.ya (y + (k + 1)) = PDate.ya y + 365 * (k + 1) + (x + 1)) := Lib.hid (by
              rw [show y + (k + 1) = z + 1 by have := HZZ.out; omega]; omega)
            clear hv hxx hzz hlp hz
            go_wp2_with fail
            exact ⟨⟨k + 1, x + 1, by omega, by omega, rfl, by first | rfl | (congr 1; omega), by omega, by omega, HN, HB⟩, by simp [intOf]; omega⟩
    · obtain rfl : k = 400 := by omega
      obtain rfl : x = 97 := by have := HX.out; have := ya_again y; omega
      have hl2 : PDate.len y 2 = 28 + PDate.lp y := by rw [PDate.len_in y0 (by omega) (by omega) (by omega), if_pos rfl]
      have hl4 : PDate.len (y + 400) 2 = 28 + PDate.lp y := by rw [PDate.len_in (by omega) (by omega) (by omega) (by omega), if_pos rfl, lp_again]
      have h1 := fun w => CL.out y 2 w (by unfold I64; omega) (by unfold I64; omega)
      have h2 := fun w => CL.out (y + 400) 2 w (by unfold I64; omega) (by unfold I64; omega)
      rw [hl2] at h1; rw [hl4] at h2
      obtain ⟨l, hl⟩ : ∃ l, 28 + PDate.lp y = l := ⟨_, rfl⟩
      rw [hl] at h1 h2
      have H1 := Lib.hid h1; have H2 := Lib.hid h2
      have ll : (l == l) = true := beq_self_eq_true _
      clear h1 h2 hl2 hl4 hl
      go_wp2_with fail
      refine (H1.out _).mono ?_
      rintro _ w3 ⟨rfl, b3⟩
      have B3 := Lib.hid (below_step HB.out b3)
      clear b3
      go_wp2_with fail
      refine (H2.out _).mono ?_
      rintro _ w4 ⟨rfl, b4⟩
      have B4 := Lib.hid (below_step B3.out b4)
      clear b4
      go_wp2_with fail
      refine (awake_any _).mono ?_
      rintro _ w5 ⟨rfl, b5⟩
      have B5 := Lib.hid (below_step B4.out b5)
      clear b5
      go_wp2_with fail
      go_ret
      exact ⟨rfl, B5.out⟩

theorem dleap_walk (u : Int) (w : World) (hu : (Lit.int .u16 u).wf = true) :
    Calls Try.prog 9 #[.int .u16 u] w fun e w' => e = .returned (.bool true) ∧ Below w.heap.size w w' := by
  obtain ⟨u0, u1⟩ := u16_bounds hu
  have : u.tmod 700 = u % 700 := Int.tmod_eq_emod_of_nonneg u0
  exact dleap_in u _ _ w u0 u1 rfl rfl (by omega) (by omega)
end Go.Proofs.Ytanciheeobgngaa
