/-
  What the reference's MulDiv answers: the quotient, rounded, or that it is no amount.
-/
import Derived.Test.YtmmgejgmlhhfdaaRef02Row
import Derived.Deep.RegionHeld3
import Derived.Deep.DeepCutAuto
namespace Go.Proofs.Ytmmgejgmlhhfdaa
open Go.RowKit

set_option maxHeartbeats 3200000 in
set_option maxRecDepth 100000 in
theorem refdiv_any (a b c : Int) (mode : Nat) (w : World) (ha : -9223372036854775808 ≤ a) (ha' : a ≤ 9223372036854775807) (hb : -9223372036854775808 ≤ b) (hb' : b ≤ 9223372036854775807) (hc : -9223372036854775808 ≤ c) (hc' : c ≤ 9223372036854775807) (hc0 : c ≠ 0) (hm : mode ≤ 3) :
    Calls Try.prog 30 #[.int .i64 a, .int .i64 b, .int .i64 c, .int .i64 mode] w fun e w' => e = .returned (divAns (((decide (a < 0) != decide (b < 0)) && decide (0 < a.natAbs * b.natAbs)) != decide (c < 0)) (PDigs.rounded mode (a.natAbs * b.natAbs) c.natAbs)) ∧ Below w.heap.size w w' := by
  have HC0 := Lib.hid hc0; clear hc0
  go_enter Try.func30, Try.ntmps30
  go_wp2_with fail
  refine (of_any a _ ha ha').mono ?_
  rintro _ w1 ⟨A1, n1, c1, rfl, hn1, hb1⟩
  have l1 : n1 ≤ 19 := by have := len19 (n := a.natAbs) (by omega); rw [hn1.len] at this; exact this
  have HN1 := Lib.hid hn1; clear hn1
  go_wp2_with fail
  refine (of_any b _ hb hb').mono ?_
  rintro _ w2 ⟨A2, n2, c2, rfl, hn2, hb2⟩
  have l2 : n2 ≤ 19 := by have := len19 (n := b.natAbs) (by omega); rw [hn2.len] at this; exact this
  have HN2 := Lib.hid hn2; clear hn2
  go_wp2_with fail
  refine (mul_any _ _ A1 A2 n1 c1 n2 c2 a.natAbs b.natAbs _ (HN1.out.sl.on hb2) HN2.out.sl (by omega) (by omega)).mono ?_
  rintro _ w3 ⟨PA, pn, pc, rfl, hp, hb3⟩
  have l3 : pn ≤ 38 := by have := len38 (x := a.natAbs) (y := b.natAbs) (by omega) (by omega); rw [hp.len] at this; exact this
  have HP := Lib.hid hp; clear hp
  generalize hsp : ((decide (a < 0) != decide (b < 0)) && decide (0 < a.natAbs * b.natAbs)) = sp at *
  have HSP := Lib.hid hsp; clear hsp
  go_wp2_with fail
  refine (of_any c _ hc hc').mono ?_
  rintro _ w4 ⟨CA, cn, cc, rfl, hcn, hb4⟩
  have l4 : cn ≤ 19 := by have := len19 (n := c.natAbs) (by omega); rw [hcn.len] at this; exact this
  have HCN := Lib.hid hcn; clear hcn
  generalize hsc : decide (c < 0) = sc at *
  have HSC := Lib.hid hsc; clear hsc
  obtain ⟨P, hPP⟩ : ∃ P, a.natAbs * b.natAbs = P := ⟨_, rfl⟩
  obtain ⟨C, hCC⟩ : ∃ C, c.natAbs = C := ⟨_, rfl⟩
  have hC : 0 < C := by have := HC0.out; omega
  have hC' : C ≤ 9223372036854775808 := by omega
  rw [hPP] at HP HSP
  rw [hCC] at HCN
  have HPP := Lib.hid hPP; have HCC := Lib.hid hCC; clear hPP hCC
  have HPN := HP.out.len
  have HLN := Lib.hid HPN; clear HPN
  go_wp2_with fail
  go_loopw [12, 13, 14] (fun lf dg i wr => ∃ (k : Nat) (A : Option Addr) (ln lc : Nat), k ≤ pn ∧ i = .int .i64 ((k : Int) - 1) ∧ lf = .slice A ln lc ∧ DivInv (boxed2 w4 sp sc (.slice PA pn pc) (.slice CA cn cc)) wr P C pn k A ln lc dg) (fun _ _ i _ => (intOf i + 1).toNat)
  case atStart => exact ⟨pn, none, 0, 0, Nat.le_refl _, rfl, rfl, divInv_start _ P C pn HLN.out⟩
  case round =>
    obtain ⟨k, A, ln, lc, hk, rfl, rfl, hinv⟩ := hrel
    obtain ⟨hnum, ⟨D, hDl, hDd, hDv, hDo⟩, hap, hbl⟩ := hinv
    have HNU := Lib.hid hnum; have HDL := Lib.hid hDl; have HDD := Lib.hid hDd; have HDV := Lib.hid hDv; have HDO := Lib.hid hDo; have HAP := Lib.hid hap
    clear hnum hDl hDd hDv hDo hap
    obtain ⟨k1, k2, k3, k4⟩ := boxed2_cells w4 sp sc (.slice PA pn pc) (.slice CA cn cc)
    have hz5 := boxed2_size w4 sp sc (.slice PA pn pc) (.slice CA cn cc)
    have e2 := (hbl.cell (p := ⟨w4.heap.size, 1, none⟩) (by rw [hz5]; simp; omega)).trans k2
    have e4 := (hbl.cell (p := ⟨w4.heap.size + 1, 1, none⟩) (by rw [hz5]; simp)).trans k4
    by_cases h0 : k = 0
    · subst h0
      rw [Nat.pow_zero, Nat.div_one] at HNU HDV
      rw [Nat.sub_zero] at HDL HDO
      obtain ⟨Q, hQ⟩ : ∃ Q, P / C = Q := ⟨_, rfl⟩
      obtain ⟨R, hR⟩ : ∃ R, P % C = R := ⟨_, rfl⟩
      rw [hQ] at HDV
      rw [hR] at HNU
      have HQ := Lib.hid hQ; have HR := Lib.hid hR; clear hQ hR
      have l5 : ln ≤ 19 := by have := len19 (n := R) (by have := Nat.mod_lt P hC; have := HR.out; omega); rw [HNU.out.len] at this; exact this
      have HK := Lib.hid k1; have HK3 := Lib.hid k3; have HK2 := Lib.hid k2; have HK4 := Lib.hid k4
      clear k1 k2 k3 k4
      have HZ5 := Lib.hid hz5; clear hz5
      obtain ⟨DA, dc, rfl, hd1, hd2, hd3, hSD⟩ := sl_of_own HDO.out (dig_in64 HDD.out) (by omega)
      have HSD := Lib.hid hSD; clear hSD
      go_upto_region 14 with fail
      go_cut [17] (fun o wx => o = .bool (decide (Q % 2 = 1)) ∧ wr = wx)
      case first =>
        by_cases hp0 : pn = 0
        · subst hp0
          obtain rfl := odd_none HDL.out HDV.out
          go_wp2_with fail
          go_meet
          exact ⟨rfl, rfl⟩
        · obtain ⟨b3, o3, rfl, hcd⟩ : ∃ b off, DA = some ⟨b, off, none⟩ ∧ ∀ i, i < pn → wr.cell? ⟨b, off + i, none⟩ = some (.int .i64 (D.getD i 0)) := by
            rcases HSD.out.2.2.2 with h | h
            · omega
            · exact h
          obtain ⟨m, rfl⟩ : ∃ m, pn = m + 1 := ⟨pn - 1, by omega⟩
          obtain ⟨x, hx⟩ : ∃ x, D.getD m 0 = x := ⟨_, rfl⟩
          have x0 := dig_get HDD.out m
          have e6 := hcd m (by omega)
          rw [hx] at e6 x0
          have HX := Lib.hid (odd_last HDL.out (by omega) HDV.out hx)
          obtain ⟨x1, x9⟩ := x0
          clear hcd hx
          have i1 : (0 : Int) ≤ (m : Int) := by omega
          have i2 : (m : Int) < ((m + 1 : Nat) : Int) := by omega
          go_wp2_with fail
          go_meet
          exact ⟨congrArg Value.bool HX.out, rfl⟩
      case rest =>
        obtain ⟨rfl, rfl⟩ := hcut
        have hb4r := (boxed2_below w4 sp sc (.slice PA pn pc) (.slice CA cn cc)).trans (hbl.mono (by rw [HZ5.out]; omega))
        have HCR := Lib.hid (HCN.out.sl.on hb4r)
        have e4l := Lib.hid (World.block_lt_of_cell? wr _ e4)
        have E4 := Lib.hid e4
        go_upto_region 15 with fail
        go_cut [18] (fun h wx => h = .int .i64 (PDigs.cmp (R * 2) C) ∧ Below wr.heap.size wr wx)
        case first =>
          go_region_held3 (fun w' => w'.cell? ⟨w4.heap.size + 1, 1, none⟩ = some (.slice CA cn cc))
            (first
              | go_keep
              | exact (hb6.cell e4l.out).trans E4.out
              | exact (hb7.cell (World.block_lt_of_cell? w6 _ ((hb6.cell e4l.out).trans E4.out))).trans ((hb6.cell e4l.out).trans E4.out))
            (first
              | ((go_at_call 47; refine (double_any A ln lc R _ (HNU.out.sl.on (by first | exact Below.refl _ _ | exact (Below.refl _ _).drew)) (by omega)).mono ?_; rintro _ w6 ⟨A6, n6, c6, rfl, hn6, hb6⟩))
              | ((go_at_call 45; refine (size_any A6 CA n6 cn c6 cc _ (R * 2) C hn6.sl (HCR.out.on (by first | exact hb6 | exact below_undrew hb6))).mono ?_; rintro _ w7 ⟨rfl, hb7⟩)))
          all_goals
            go_wp2_with fail
            go_meet
            exact ⟨rfl, below_step (by first | exact hb6 | exact below_undrew hb6) hb7⟩
        case rest =>
          obtain ⟨rfl, hbc⟩ := hcut
          have hln : Hid (0 < R ↔ 0 < ln) := Lib.hid (by
            rw [← HNU.out.len]
            by_cases h0 : R = 0
            · subst h0; rw [PDigs.digs_zero]; simp
            · have : (PDigs.digs R).length ≠ 0 := fun e => h0 (PDigs.digs_eq_nil.1 (List.eq_nil_of_length_eq_zero e))
              omega)
          go_upto_region 16 with fail
          go_cut [3, 18, 19] (fun _ _ m wx => m = .bool (PDigs.upB mode Q R C) ∧ wc = wx)
          case first =>
            clear ha ha' hb hb' hc hc' HC0 hb1 l1 HN1 hb2 l2 HN2 hb3 l3 hb4 l4 HSC HSP HP HCN hC hC' HPP HCC HLN hbl HDD e2 e4 hk HDL HDV HNU HQ HR HK HK2 HK3 HK4 HZ5 HAP HDO hd1 hd2 hd3 HSD hb4r HCR e4l E4 hbc
            by_cases hm0 : mode ≤ 1
            · generalize PDigs.cmp (R * 2) C = h
              have q2 : ¬ 1 < ((mode : Nat) : Int) := by omega
              have q3 : ¬ ((mode : Nat) : Int) = 2 := by omega
              have q4 : ¬ ((mode : Nat) : Int) = 3 := by omega
              by_cases hm1 : mode = 1
              · by_cases hl : 0 < ln
                · have HU : Hid (PDigs.upB mode Q R C = true) := Lib.hid (by rw [hm1]; exact up1 Q R C hln.out hl)
                  clear hm hm0 hln q2 q3 q4
                  subst hm1
                  go_wp2_with fail
                  go_meet
                  exact ⟨by rw [HU.out], rfl⟩
                · have HU : Hid (PDigs.upB mode Q R C = false) := Lib.hid (by rw [hm1]; exact up1' Q R C hln.out hl)
                  clear hm hm0 hln q2 q3 q4
                  subst hm1
                  by_cases hh : h = 0
                  · subst hh
                    go_wp2_with fail
                    go_meet
                    exact ⟨by rw [HU.out], rfl⟩
                  · go_wp2_with fail
                    go_meet
                    exact ⟨by rw [HU.out], rfl⟩
              · have HU : Hid (PDigs.upB mode Q R C = false) := Lib.hid (by rw [show mode = 0 by omega]; exact up0 Q R C)
                obtain rfl : mode = 0 := by omega
                clear hm hm0 hm1 hln q2 q3 q4
                by_cases hh : h = 0
                · subst hh
                  go_wp2_with fail
                  go_meet
                  exact ⟨by rw [HU.out], rfl⟩
                · go_wp2_with fail
                  go_meet
                  exact ⟨by rw [HU.out], rfl⟩
            · have q1 : ¬ ((mode : Nat) : Int) = 1 := by omega
              have q2 : 1 < ((mode : Nat) : Int) := by omega
              clear hln
              rcases Nat.lt_trichotomy (R * 2) C with hh | hh | hh
              · have HU := Lib.hid (up_lt Q (mode := mode) (by omega) hh)
                obtain ⟨h, hh1⟩ : ∃ h, PDigs.cmp (R * 2) C = h := ⟨_, rfl⟩
                have hneg : h < 0 := by rw [← hh1, PDigs.cmp_lt hh]; decide
                rw [hh1]
                clear hh1
                have hne : ¬ h = 0 := by omega
                have hng : ¬ 0 < h := by omega
                clear hneg hh hm hm0
                go_wp2_with fail
                go_meet
                exact ⟨by rw [HU.out], rfl⟩
              · rw [PDigs.cmp_eq hh]
                by_cases hm2 : mode = 2
                · have HU : Hid (PDigs.upB mode Q R C = true) := Lib.hid (by rw [hm2]; exact up2 Q hh)
                  clear hh hm hm0 q1 q2
                  subst hm2
                  go_wp2_with fail
                  go_meet
                  exact ⟨by rw [HU.out], rfl⟩
                · have HU : Hid (PDigs.upB mode Q R C = decide (Q % 2 = 1)) := Lib.hid (by rw [show mode = 3 by omega]; exact up3 Q hh)
                  obtain rfl : mode = 3 := by omega
                  clear hh hm hm0 hm2 q1 q2
                  go_wp2_with fail
                  go_meet
                  exact ⟨by rw [HU.out], rfl⟩
              · have HU := Lib.hid (up_gt Q (mode := mode) (by omega) hh)
                obtain ⟨h, hh1⟩ : ∃ h, PDigs.cmp (R * 2) C = h := ⟨_, rfl⟩
                have hpos : 0 < h := by rw [← hh1, PDigs.cmp_gt hh]; decide
                rw [hh1]
                clear hh1
                have hne : ¬ h = 0 := by omega
                clear hh hm hm0
                go_wp2_with fail
                go_meet
                exact ⟨by rw [HU.out], rfl⟩
          case rest =>
            obtain ⟨rfl, rfl⟩ := hcut
            have hrd : Hid (PDigs.rounded mode P C = Q + if PDigs.upB mode Q R C = true then 1 else 0) := Lib.hid (by unfold PDigs.rounded; rw [HQ.out, HR.out])
            obtain ⟨up, hup⟩ : ∃ up, PDigs.upB mode Q R C = up := ⟨_, rfl⟩
            rw [hup] at hrd
            rw [hup]
            clear hup
            have g1 := (hbc.cell (p := ⟨w4.heap.size, 0, none⟩) (Nat.lt_of_le_of_lt (Nat.le_succ _) e4l.out)).trans ((hbl.cell (p := ⟨w4.heap.size, 0, none⟩) (by rw [HZ5.out]; simp; omega)).trans HK.out)
            have g2 := (hbc.cell (p := ⟨w4.heap.size + 1, 0, none⟩) e4l.out).trans ((hbl.cell (p := ⟨w4.heap.size + 1, 0, none⟩) (by rw [HZ5.out]; simp)).trans HK3.out)
            have HSW := Lib.hid (HSD.out.on hbc)
            have hend : Below w.heap.size w wc := below_step (below_step (below_step (below_step (below_step hb1 hb2) hb3) hb4) hb4r) hbc
            have HG1 := Lib.hid g1; have HG2 := Lib.hid g2
            clear g1 g2 e2 e4 hb1 hb2 hb3 hb4 hb4r hbc hbl HN1 HN2 HP HCN HCR E4 HK HK2 HK3 HK4 HNU HDO HAP HSD e4l HZ5 l1 l2 l4 l5 hC hC' hln ha ha' hb hb' hc hc' HC0 HQ HR HLN hd1
            go_wp2_with fail
            go_loopw [20, 21] (fun n i wz => ∃ (j : Nat) (z : Int), j ≤ pn ∧ i = .int .i64 j ∧ n = .int .i64 z ∧ PDigs.hval (D.take j) = z ∧ z ≤ 9223372036854775807 ∧ wc = wz) (fun _ i _ => pn - (intOf i).toNat)
            case atStart => exact ⟨0, 0, Nat.zero_le _, rfl, rfl, rfl, by decide, rfl⟩
            case round =>
              obtain ⟨j, z, hj, rfl, rfl, hz, hzm, rfl⟩ := hrel
              have hz0 := hval_low HDD.out hz
              by_cases hlt : j < pn
              · obtain ⟨b3, o3, rfl, hcd⟩ : ∃ b off, DA = some ⟨b, off, none⟩ ∧ ∀ i, i < pn → wc.cell? ⟨b, off + i, none⟩ = some (.int .i64 (D.getD i 0)) := by
                  rcases HSW.out.2.2.2 with h | h
                  · omega
                  · exact h
                have e6 := hcd j hlt
                obtain ⟨x0, x9⟩ := dig_get HDD.out j
                obtain ⟨x, hx⟩ : ∃ x, D.getD j 0 = x := ⟨_, rfl⟩
                rw [hx] at e6 x0 x9
                have HM := Lib.hid (hval_more (by rw [HDL.out]; exact hlt) hx hz)
                have HZ := Lib.hid hz
                clear hz hx hcd
                have i1 : (0 : Int) ≤ (j : Int) := by omega
                have i2 : (j : Int) < (pn : Int) := by omega
                by_cases hov : (9223372036854775807 - x) / 10 < z
                · have hQ := hval_over HDD.out HDV.out HM.out
                  have HA := Lib.hid (divAns_no (sg := sp != sc) (r := PDigs.rounded mode P C) (by rw [hrd.out]; omega))
                  clear hQ
                  go_wp2_with fail
                  go_ret2
                  exact ⟨by rw [HPP.out, HCC.out, HSP.out, HSC.out, HA.out]; rfl, hend⟩
                · have hzn : 10 * z + x ≤ 9223372036854775807 := by omega
                  go_wp2_with fail
                  go_roundw
                  case rel => exact ⟨j + 1, 10 * z + x, by omega, by go_num, rfl, HM.out, hzn, by first | rfl | trivial⟩
                  case measure => simp [intOf]; omega
              · obtain rfl : j = pn := by omega
                obtain rfl := hval_whole HDL.out HDV.out hz
                clear hz
                have g1 := HG1.out; have g2 := HG2.out
                cases up
                · have hr0 : Hid (PDigs.rounded mode P C = Q) := Lib.hid (by rw [hrd.out]; rfl)
                  clear hrd
                  by_cases hs : sp = sc
                  · have HA := Lib.hid (divAns_yes (sg := sp != sc) (r := PDigs.rounded mode P C) (n := (Q : Int)) (by rw [hr0.out]; omega) (by rw [hr0.out, hs]; simp))
                    go_wp2_with fail
                    go_ret2
                    exact ⟨by rw [HPP.out, HCC.out, HSP.out, HSC.out, HA.out]; rfl, hend⟩
                  · have HA := Lib.hid (divAns_yes (sg := sp != sc) (r := PDigs.rounded mode P C) (n := -(Q : Int)) (by rw [hr0.out]; omega) (by rw [hr0.out]; simp [hs]))
                    go_wp2_with fail
                    · go_ret2
                      exact ⟨by rw [HPP.out, HCC.out, HSP.out, HSC.out, HA.out]; rfl, hend⟩
                    · exfalso
                      rename_i h
                      cases sp <;> cases sc <;> first | (simp at hs; done) | (simp at h; done)
                · have hr0 : Hid (PDigs.rounded mode P C = Q + 1) := Lib.hid (by rw [hrd.out]; rfl)
                  clear hrd
                  by_cases hM : (Q : Int) = 9223372036854775807
                  · have HA := Lib.hid (divAns_no (sg := sp != sc) (r := PDigs.rounded mode P C) (by rw [hr0.out]; omega))
                    go_wp2_with fail
                    go_ret2
                    exact ⟨by rw [HPP.out, HCC.out, HSP.out, HSC.out, HA.out]; rfl, hend⟩
                  · by_cases hs : sp = sc
                    · have HA := Lib.hid (divAns_yes (sg := sp != sc) (r := PDigs.rounded mode P C) (n := (Q : Int) + 1) (by rw [hr0.out]; omega) (by rw [hr0.out, hs]; simp))
                      go_wp2_with fail
                      go_ret2
                      exact ⟨by rw [HPP.out, HCC.out, HSP.out, HSC.out, HA.out]; rfl, hend⟩
                    · have HA := Lib.hid (divAns_yes (sg := sp != sc) (r := PDigs.rounded mode P C) (n := -((Q : Int) + 1)) (by rw [hr0.out]; omega) (by rw [hr0.out]; simp [hs]))
                      go_wp2_with fail
                      · go_ret2
                        exact ⟨by rw [HPP.out, HCC.out, HSP.out, HSC.out, HA.out]; rfl, hend⟩
                      · exfalso
                        rename_i h
                        cases sp <;> cases sc <;> first | (simp at hs; done) | (simp at h; done)
    · obtain ⟨m, rfl⟩ : ∃ m, k = m + 1 := ⟨k - 1, by omega⟩
      rw [show (((m + 1 : Nat) : Int) - 1) = (m : Int) by omega]
      obtain ⟨b1, o1, rfl, hcp⟩ : ∃ b off, PA = some ⟨b, off, none⟩ ∧ ∀ i, i < pn → w3.cell? ⟨b, off + i, none⟩ = some (.int .i64 ((PDigs.digs P).getD i 0)) := by
        rcases HP.out.sl.2.2.2 with h | h
        · omega
        · exact h
      have bw3 : Below w3.heap.size w3 wr := (hb4.trans ((boxed2_below w4 sp sc _ _).mono hb4.size)).trans (hbl.mono (by rw [hz5]; have := hb4.size; omega))
      have e5 := (bw3.cell (World.block_lt_of_cell? w3 _ (hcp m (by omega)))).trans (hcp m (by omega))
      rw [PDigs.digs_at] at e5
      obtain ⟨d, hd⟩ : ∃ d, P / 10 ^ m % 10 = d := ⟨_, rfl⟩
      rw [hd] at e5
      have hd9 : d ≤ 9 := by omega
      have HD := Lib.hid hd; clear hd hcp
      have HK := Lib.hid k1; have HK3 := Lib.hid k3; have HK2 := Lib.hid k2; have HK4 := Lib.hid k4
      clear k1 k2 k3 k4
      have HZ5 := Lib.hid hz5; clear hz5
      have i1 : (0 : Int) ≤ (m : Int) := by omega
      have i2 : (m : Int) < (pn : Int) := by omega
      go_wp2_with (at_builtin; refine append_one rfl _ _ rfl wr.heap.size (.slice none 0 0) 0 [] d (by rfl) (World.ownsRow_nil _ _ _ _) (by rfl) (by omega) (Nat.le_refl _) ?_)
      intro v1 w6 hv1 hb6
      have HV1 := Lib.hid hv1; clear hv1
      have hr : P / 10 ^ (m + 1) % C < C := Nat.mod_lt _ hC
      have l5 : ln ≤ 19 := by have := len19 (n := P / 10 ^ (m + 1) % C) (by omega); rw [HNU.out.len] at this; exact this
      go_wp2_with (at_builtin; refine append_sl rfl _ _ rfl wr.heap.size v1 1 [(d : Int)] (by rfl) HV1.out A ln lc _ (by rfl) HNU.out.1 (HNU.out.sl.on hb6) (by omega) hb6.size ?_)
      intro v2 w7 hv2 hg7
      have HV2 := Lib.hid hv2; have HG7 := Lib.hid hg7; clear hv2 hg7
      have hb7 : Below wr.heap.size wr w7 := hb6.grown HG7.out hb6.size (fun k hk => (HV1.out.lt k hk).1)
      have HDN := Lib.hid (dig_next (r := P / 10 ^ (m + 1) % C) hd9)
      go_wp2_with fail
      refine (trim_own HV2.out HDN.out (by omega)).mono ?_
      rintro _ _ ⟨A8, n8, c8, rfl, hn8, hf8, rfl⟩
      rw [val_next] at hn8
      have HS := Lib.hid (digInv_start hn8 hf8 hb7)
      clear hn8 hf8
      obtain ⟨V, hV⟩ : ∃ V, P / 10 ^ (m + 1) = V := ⟨_, rfl⟩
      rw [hV] at HS hr HNU HDV HDN HV2
      have HVV := Lib.hid hV; clear hV
      go_wp2_with fail
      go_loopw [12, 16] (fun lf dd wz => ∃ (q t : Nat) (A' : Option Addr) (n' c' : Nat), lf = .slice A' n' c' ∧ dd = .int .i64 q ∧ DigInv wr wz (10 * (V % C) + d) C q t A' n' c') (fun _ dd _ => 10 * (V % C) + d + 1 - (intOf dd).toNat)
      case atStart => exact ⟨0, _, A8, n8, c8, rfl, rfl, HS.out⟩
      case round =>
        obtain ⟨q, t, A', n', c', rfl, rfl, hin⟩ := hrel
        have HIN := Lib.hid hin
        obtain ⟨hq9, hn20⟩ := digInv_small hC hC' hd9 hin
        have hbz := hin.2.2.2
        clear hin
        have hb4z := (boxed2_below w4 sp sc (.slice (some ⟨b1, o1, none⟩) pn pc) (.slice CA cn cc)).trans ((hbl.trans (hbz.mono hbl.size)).mono (by rw [HZ5.out]; omega))
        have z4 := (hbz.cell (p := ⟨w4.heap.size + 1, 1, none⟩) (by have := hbl.size; rw [HZ5.out] at this; simp; omega)).trans e4
        have HSC := Lib.hid (HCN.out.sl.on hb4z)
        by_cases hct : C ≤ t
        · have hcmp : Hid (0 ≤ PDigs.cmp t C) := Lib.hid (cmp_ge hct)
          have hdn := digInv_down HIN.out hC hct
          go_wp2_with fail
          refine (size_any A' CA n' cn c' cc _ t C HIN.out.2.1.sl HSC.out).mono ?_
          rintro _ w8 ⟨rfl, hb8⟩
          have z8 := (hb8.cell (World.block_lt_of_cell? _ _ z4)).trans z4
          generalize PDigs.cmp t C = r at *
          have hr0 : 0 ≤ r := hcmp.out
          go_wp2_with fail
          refine (less_fresh A' CA n' cn c' cc t C _ (HIN.out.2.1.sl.on hb8) (HSC.out.on hb8) hct (by omega)).mono ?_
          rintro _ w9 ⟨A9, n9, c9, rfl, hn9, hf9, hb9⟩
          have HNX := Lib.hid (digInv_next HIN.out hct hb8 hn9 hf9 hb9)
          clear hn9 hf9
          go_wp2_with fail
          go_roundw
          case rel => exact ⟨q + 1, t - C, A9, n9, c9, rfl, by go_num, HNX.out⟩
          case measure => simp [intOf]; omega
        · have hcmp : Hid (PDigs.cmp t C = -1) := Lib.hid (PDigs.cmp_lt (by omega))
          go_wp2_with fail
          refine (size_any A' CA n' cn c' cc _ t C HIN.out.2.1.sl HSC.out).mono ?_
          rintro _ w8 ⟨rfl, hb8⟩
          rw [hcmp.out]
          have HI8 := Lib.hid (digInv_on HIN.out hb8)
          have hbr8 := below_step hbz hb8
          have HO8 := Lib.hid (own_below HDO.out hbr8)
          go_wp2_with (at_builtin; refine append_one_at rfl _ _ rfl (boxed2 w4 sp sc (.slice (some ⟨b1, o1, none⟩) pn pc) (.slice CA cn cc)).heap.size u13 (pn - (m + 1)) D q (by rfl) HO8.out (by rfl) (by omega) (Nat.le_trans hbl.size hbr8.size) ?_)
          intro v9 w9 hv9 hg9 hat9
          have HNX := Lib.hid (divInv_next hC hk HD.out (by rw [HVV.out]; exact HI8.out) (by omega) HDL.out HDD.out (by rw [HVV.out]; exact HDV.out) hbl (fun k hk' => HDO.out.lt k hk') hv9 hg9 hat9)
          clear hv9 hg9 hat9
          go_wp2_with fail
          go_roundw
          case rel => exact ⟨m, A', n', c', by omega, by go_num, rfl, HNX.out⟩
          case measure => simp [intOf]
end Go.Proofs.Ytmmgejgmlhhfdaa
