/-
  WithholdStep: amounts that are too far.
-/
import Derived.Test.YtpfpcnfodjmgcaaLaw14StepKitG
import Derived.Deep.QuietTactic
import Derived.BigQuiet
namespace Go.Proofs.Ytpfpcnfodjmgcaa
open Go.RowKit

set_option maxHeartbeats 6400000 in
set_option maxRecDepth 100000 in
theorem lstep_far {A F P O : Option Addr} {n ca m cf np cp no co : Nat} {a r : Nat → Int} {l : List PWh.Fund} {w : World} {yt yb yx t b : Int} {lyp lyo : List Int} (hA : SlP w A n a r) (hF : SlF w F m l) (hp : VSl w (.slice P np cp) lyp) (ho : VSl w (.slice O no co) lyo)
    (h40 : n ≤ 40 ∧ m ≤ 40) (h60 : np ≤ 60 ∧ no ≤ 60) (hyx : -9223372036854775808 ≤ yx ∧ yx ≤ 9223372036854775807) (hq : PWh.Rt a r n l ∧ ¬ Near6 yt yb t b) :
    Calls Try.prog 4 #[.agg #[.slice A n ca, .slice F m cf], .agg #[.int .i64 yt, .int .i64 yb, .int .i64 yx, .slice P np cp, .slice O no co], .int .i64 t, .int .i64 b] w fun e w' => e = .returned (.bool true) ∧ Below w.heap.size w w' := by
  have HQ := Lib.hid hq
  clear hq
  have SM := Lib.hid (fun w => small_yes (A := A) (F := F) (ca := ca) (cf := cf) w h40)
  have HA := Lib.hid hA; have HF := Lib.hid hF; have HP := Lib.hid hp; have HO := Lib.hid ho
  have hpn : lyp.length = np := by obtain ⟨_, _, h, _⟩ := hp; injection h with _ h _; exact h.symm
  have hon : lyo.length = no := by obtain ⟨_, _, h, _⟩ := ho; injection h with _ h _; exact h.symm
  have HPN := Lib.hid hpn; have HON := Lib.hid hon
  have cP : P = none → cp = 0 := by obtain ⟨_, _, h, h1, _⟩ := hp; injection h with h2 _ h3; subst h2; subst h3; exact h1
  have cO : O = none → co = 0 := by obtain ⟨_, _, h, h1, _⟩ := ho; injection h with h2 _ h3; subst h2; subst h3; exact h1
  have sP : Sl w P np lyp := by obtain ⟨_, _, h, _, _, h1⟩ := hp; injection h with h2 h3 _; subst h2; rw [h3]; exact h1
  have sO : Sl w O no lyo := by obtain ⟨_, _, h, _, _, h1⟩ := ho; injection h with h2 h3 _; subst h2; rw [h3]; exact h1
  have HM40 := Lib.hid h40.2
  have HSP := Lib.hid sP; have HSO := Lib.hid sO; have CP := Lib.hid cP; have CO := Lib.hid cO
  have HI : Hid (In64 ([yx] ++ lyp ++ lyo)) := Lib.hid (in64_app (in64_app (fun i hi => by
    have : i = 0 := by simp at hi; omega
    subst this; simpa [List.getD] using hyx) (fun i hi => sP.2.1 i (by omega))) (fun i hi => sO.2.1 i (by omega)))
  have HLV : Hid (([yx] ++ lyp ++ lyo).length = 1 + np + no) := Lib.hid (by rw [List.length_append, List.length_append, hpn, hon]; rfl)
  obtain ⟨h61, h62⟩ := h60
  have i61 : ¬ (60 : Int) < (np : Int) := by omega
  have i62 : ¬ (60 : Int) < (no : Int) := by omega
  clear hA hF hp ho hpn hon cP cO sP sO h40
  go_enter Try.func4, Try.ntmps4
  go_upto_region 1 with fail
  obtain ⟨w1, hw1, XS, XY, b1, hs1⟩ := enter2 w 25 30 [.slice A n ca, .slice F m cf] [.int .i64 yt, .int .i64 yb, .int .i64 yx, .slice P np cp, .slice O no co]
  rw [hw1]
  obtain ⟨L, hL⟩ : ∃ L, w.heap.size = L := ⟨_, rfl⟩
  rw [hL] at XS XY hs1 ⊢
  have XS1 := Lib.hid XS; have XY1 := Lib.hid XY; have B1 := Lib.hid b1; have HLw := Lib.hid hL
  clear hw1 hL b1 XS XY hs1
  obtain ⟨c0, c1⟩ := box2 XS1.out
  obtain ⟨y0, y1, y2, y3, y4⟩ := box5 XY1.out
  go_wp2_with fail
  refine (SM.out _).mono ?_
  rintro _ w2 ⟨rfl, b2⟩
  have XS2 := Lib.hid (XS1.out.on b2); have XY2 := Lib.hid (XY1.out.on b2); have B2 := Lib.hid (below_step B1.out b2)
  clear b2 XS1 XY1 B1 c0 c1 y0 y1 y2 y3 y4 SM
  obtain ⟨y0, y1, y2, y3, y4⟩ := box5 XY2.out
  go_upto_region 3 with fail
  go_cut [43, 44, 45] (fun v q i wx => ∃ (R : Option Addr) (cr : Nat), v = .slice R (1 + np + no) cr ∧ q = .int .i64 ((1 + np + no : Nat) : Int) ∧ i = .int .i64 0 ∧ Hid (Sl wx R (1 + np + no) ([yx] ++ lyp ++ lyo)) ∧ Hid (Below w2.heap.size w2 wx))
  case first =>
    have hLs : L + 1 < w2.heap.size := XY2.out.1
    have bA : Below w2.heap.size w2 ((w2.alloc (.cells #[.int .i64 yx] 3)).drew) := ((Below.refl _ _).alloc (Nat.le_refl _) _).drew
    have ZZ : w2.drew.cell? ⟨L + 1, 2, none⟩ = some (.int .i64 yx) ∧ w2.drew.cell? ⟨L + 1, 3, none⟩ = some (.slice P np cp) ∧ w2.drew.cell? ⟨L + 1, 4, none⟩ = some (.slice O no co) := ⟨y2, y3, y4⟩
    have ZA := keepB3 bA hLs (show w2.cell? ⟨L + 1, 2, none⟩ = some (.int .i64 yx) ∧ w2.cell? ⟨L + 1, 3, none⟩ = some (.slice P np cp) ∧ w2.cell? ⟨L + 1, 4, none⟩ = some (.slice O no co) from ⟨y2, y3, y4⟩)
    have O1 := own_lit1 w2 yx
    have S1 := (HSP.out.on B2.out).on bA
    have S20 := HSO.out.on B2.out
    have hs2 : w2.heap.size ≤ ((w2.alloc (.cells #[.int .i64 yx] 3)).drew).heap.size := bA.size
    have n1 : 1 + np ≤ 1000 := by omega
    have n2 : 1 + np + no ≤ 1000 := by omega
    have cP := CP.out; have cO := CO.out
    go_region_held3 (fun w' => w'.cell? ⟨L + 1, 2, none⟩ = some (.int .i64 yx) ∧ w'.cell? ⟨L + 1, 3, none⟩ = some (.slice P np cp) ∧ w'.cell? ⟨L + 1, 4, none⟩ = some (.slice O no co))
      (first
        | with_reducible exact ZZ
        | with_reducible exact ZA
        | with_reducible exact Z3
        | with_reducible exact Z4)
      (first
        | (refine step_append_sl _ rfl _ _ rfl w2.heap.size _ 1 [yx] rfl O1 P np cp lyp rfl cP S1 n1 hs2 ?_; intro p' w3 hown3 hb3 hk3 hc3; obtain ⟨P3, c3, rfl⟩ := own_shape hown3; have Z3 := keepB3 hb3 hLs ZA; have b3 := bA.trans hb3; have S3 := S20.on b3; have hs3 := b3.size)
        | (refine step_append_sl _ rfl _ _ rfl w2.heap.size _ _ _ rfl hown3 O no co lyo rfl cO S3 n2 hs3 ?_; intro q' w4 hown4 hb4 hk4 hc4; obtain ⟨Q4, c4, rfl⟩ := own_shape hown4; have Z4 := keepB3 hb4 hLs Z3))
    all_goals
      have BW : Below w2.heap.size w2 w4 := (bA.trans hb3).trans hb4
      obtain ⟨R, cr, e, _, _, _, hs⟩ := sl_of_own hown4 HI.out (by omega)
      injection e with e1 e2 e3
      subst e1; subst e3
      have HS := Lib.hid hs; have HB := Lib.hid BW
      clear BW hs ZZ ZA Z3 Z4 O1 S1 S3 S20 bA hb3 hb4 hk3 hk4 hc3 hc4 hown3 hown4 b3
      go_wp2_with fail
      go_meet
      exact ⟨Q4, c4, rfl, rfl, rfl, HS, HB⟩
  case rest =>
    obtain ⟨R, cr, rfl, rfl, rfl, HS, HB⟩ := hcut
    clear y0 y1 y2 y3 y4
    obtain ⟨N, hN⟩ : ∃ N, 1 + np + no = N := ⟨_, rfl⟩
    have hN121 : N ≤ 121 := by omega
    rw [hN] at HS HLV ⊢
    have HNN := Lib.hid hN
    obtain ⟨V, hV⟩ : ∃ V, [yx] ++ lyp ++ lyo = V := ⟨_, rfl⟩
    rw [hV] at HS HLV HI
    have HVV := Lib.hid hV
    clear hN hV
    go_wp2_with fail
    go_loopw [45] (fun i wr => ∃ k : Nat, k ≤ N ∧ i = .int .i64 k ∧ Hid (∀ j, j < k → W60 (V.getD j 0)) ∧ Hid (Below wc.heap.size wc wr)) (fun i _ => N - (intOf i).toNat)
    case atStart => exact ⟨0, Nat.zero_le _, rfl, (show Hid _ from fun j hj => by omega), (show Hid _ from Below.refl _ _)⟩
    case round =>
      obtain ⟨k, hk, rfl, HK, HW⟩ := hrel
      by_cases hlt : k < N
      · obtain ⟨d, off, rfl, hc⟩ := sl_cell (HS.out.on HW.out) hlt
        have q1 := hc k hlt
        have hn := HK.out
        obtain ⟨v, hv⟩ : ∃ v, V.getD k 0 = v := ⟨_, rfl⟩
        rw [hv] at q1
        have HVk := Lib.hid hv
        have i1 : (0 : Int) ≤ (k : Int) := by omega
        have i2 : (k : Int) < (N : Int) := by omega
        clear hc hn hv
        by_cases g1 : 1152921504606846976 < v
        · go_wp2_with fail
          refine (awake_any _).mono ?_
          rintro _ w9 ⟨rfl, b9⟩
          have B9 := Lib.hid (below_step (below_step (below_step B2.out HB.out) HW.out) b9)
          clear b9
          go_wp2_with fail
          go_ret
          exact ⟨rfl, B9.out⟩
        by_cases g2 : v < -1152921504606846976
        · go_wp2_with fail
          refine (awake_any _).mono ?_
          rintro _ w9 ⟨rfl, b9⟩
          have B9 := Lib.hid (below_step (below_step (below_step B2.out HB.out) HW.out) b9)
          clear b9
          go_wp2_with fail
          go_ret
          exact ⟨rfl, B9.out⟩
        have HK2 : Hid (∀ j, j < k + 1 → W60 (V.getD j 0)) := Lib.hid (fun j hj => by
          by_cases e : j = k
          · subst e; rw [HVk.out]; unfold W60; omega
          · exact HK.out j (by omega))
        go_wp2_with fail
        exact ⟨⟨k + 1, by omega, by congr 1, HK2, HW⟩, by simp [intOf]; omega⟩
      · obtain rfl : k = N := by omega
        have hk1 := HK.out
        have w60 : W60 yx ∧ W60L lyp ∧ W60L lyo := w60_parts HVV.out HPN.out HON.out (by rw [HNN.out]; exact hk1)
        obtain ⟨s, hs, hC⟩ := lstep_spec (ca := ca) (cf := cf) (t := t) (b := b) (yt := yt) (yb := yb) HA.out HF.out HP.out HO.out w60.1 w60.2.1 w60.2.2
        have HC := Lib.hid hC; have HS := Lib.hid hs; have H60 := Lib.hid w60
        have BW := Lib.hid (below_step (below_step B2.out HB.out) HW.out)
        have XS3 := Lib.hid ((XS2.out.on HB.out).on HW.out); have XY3 := Lib.hid ((XY2.out.on HB.out).on HW.out)
        clear hk1 hC hs w60 HK HB HW B2 XS2 XY2 HVV HLV HI
        obtain ⟨c0, c1⟩ := box2 XS3.out
        obtain ⟨y0, y1, y2, y3, y4⟩ := box5 XY3.out
        go_wp2_with fail
        refine (HC.out _ BW.out).mono ?_
        rintro _ w5 ⟨p, o, p', o', rfl, v1, v2, v3, v4, b5, -, -, -, -⟩
        obtain ⟨P5, cp5, rfl, nP5, lP5, sP5⟩ := v1
        obtain ⟨O5, co5, rfl, nO5, lO5, sO5⟩ := v2
        obtain ⟨P6, cp6, rfl, nP6, lP6, sP6⟩ := v3
        obtain ⟨O6, co6, rfl, nO6, lO6, sO6⟩ := v4
        have V1 := Lib.hid (show VSl w5 _ s.rp from ⟨P5, cp5, rfl, nP5, lP5, sP5⟩); have V2 := Lib.hid (show VSl w5 _ s.ro from ⟨O5, co5, rfl, nO5, lO5, sO5⟩)
        have V3 := Lib.hid (show VSl w5 _ s.cp from ⟨P6, cp6, rfl, nP6, lP6, sP6⟩); have V4' := Lib.hid (show VSl w5 _ s.co from ⟨O6, co6, rfl, nO6, lO6, sO6⟩)
        have BW5 := Lib.hid (below_step BW.out b5); have XS5 := Lib.hid (XS3.out.on b5); have XY5 := Lib.hid (XY3.out.on b5)
        clear b5 c0 c1 y0 y1 y2 y3 y4 BW XS3 XY3 HC nP5 lP5 sP5 nO5 lO5 sO5 nP6 lP6 sP6 nO6 lO6 sO6
        unfold yrV
        go_upto_region 10 with fail
        obtain ⟨w6, hw6, XZ, XM, b6, hs6⟩ := enter2 w5 30 30 [.int .i64 s.rt, .int .i64 s.rb, .int .i64 s.rx, .slice P5 s.rp.length cp5, .slice O5 s.ro.length co5] [.int .i64 s.ct, .int .i64 s.cb, .int .i64 s.cx, .slice P6 s.cp.length cp6, .slice O6 s.co.length co6]
        rw [hw6]
        obtain ⟨Z, hZ⟩ : ∃ Z, w5.heap.size = Z := ⟨_, rfl⟩
        rw [hZ] at XZ XM hs6 ⊢
        have XZ6 := Lib.hid XZ; have XM6 := Lib.hid XM
        have BW6 := Lib.hid (below_step BW5.out b6); have XS6 := Lib.hid (XS5.out.on b6); have XY6 := Lib.hid (XY5.out.on b6)
        have V16 := Lib.hid (V1.out.on b6); have V26 := Lib.hid (V2.out.on b6); have V36 := Lib.hid (V3.out.on b6); have V46 := Lib.hid (V4'.out.on b6)
        clear hw6 XZ XM b6 hs6 hZ BW5 XS5 XY5 V1 V2 V3 V4'
        obtain ⟨c0, c1⟩ := box2 XS6.out
        go_wp2_with fail
        go_quiet (fail)
        have bq : Below w6.heap.size w6 (w6.drewN nq) := below_drewN (Below.refl _ _) _
        have XZ7 := Lib.hid (XZ6.out.on bq); have XM7 := Lib.hid (XM6.out.on bq); have XS7 := Lib.hid (XS6.out.on bq); have XY7 := Lib.hid (XY6.out.on bq)
        have BW7 := Lib.hid (below_step BW6.out bq)
        have V17 := Lib.hid (V16.out.on bq); have V27 := Lib.hid (V26.out.on bq); have V37 := Lib.hid (V36.out.on bq); have V47 := Lib.hid (V46.out.on bq)
        generalize w6.drewN nq = w7 at *
        clear bq c0 c1 XZ6 XM6 XS6 XY6 BW6 V16 V26 V36 V46
        go_upto_block 2 with fail
        go_cut [14] (fun x wx => x = .int .i64 s.e ∧ Hid (Below w7.heap.size w7 wx))
        case first =>
          have CR := Lib.hid (lref_any (A := A) (n := n) (ca := ca) (cf := cf) (HF.out.on BW7.out) HM40.out)
          obtain ⟨c0, c1⟩ := box2 XS7.out
          go_wp2_with fail
          refine CR.out.mono ?_
          rintro _ w8 ⟨F7, cf7, rfl, sf7, b8⟩
          clear c0 c1 CR
          go_wp2_with fail
          cases HS.out with
          | wrong hR => exact absurd HQ.out.1 hR
          | far hR hn =>
            refine (rwright_any (A := A) (n := n) (ca := ca) (cf := cf7) ((HA.out.on BW7.out).on b8) sf7 (bb := true) ⟨fun _ => hR, fun _ => rfl⟩).mono ?_
            rintro _ w9 ⟨rfl, b9⟩
            have B9 : Hid (Below w7.heap.size w7 w9) := Lib.hid (below_step b8 b9)
            obtain ⟨z0, z1, z2, z3, z4⟩ := box5 ((XY7.out.on b8).on b9)
            clear b8 b9 sf7
            obtain ⟨y1, h1⟩ := near_bool yt
            obtain ⟨y2, h2⟩ := near_bool t
            obtain ⟨y3, h3⟩ := near_bool yb
            obtain ⟨y4, h4⟩ := near_bool b
            obtain ⟨y5, h5⟩ := near_bool (yt + t)
            obtain ⟨y6, h6⟩ := near_bool (yb + b)
            have N1 : Hid (∀ w, Calls Try.prog 15 #[.int .i64 yt] w fun e w' => e = .returned (.bool (!y1)) ∧ w = w') := Lib.hid (fun w => far_any yt w y1 h1)
            have N2 : Hid (∀ w, Calls Try.prog 15 #[.int .i64 t] w fun e w' => e = .returned (.bool (!y2)) ∧ w = w') := Lib.hid (fun w => far_any t w y2 h2)
            have N3 : Hid (∀ w, Calls Try.prog 15 #[.int .i64 yb] w fun e w' => e = .returned (.bool (!y3)) ∧ w = w') := Lib.hid (fun w => far_any yb w y3 h3)
            have N4 : Hid (∀ w, Calls Try.prog 15 #[.int .i64 b] w fun e w' => e = .returned (.bool (!y4)) ∧ w = w') := Lib.hid (fun w => far_any b w y4 h4)
            have N5 : Hid (∀ w, Calls Try.prog 15 #[.int .i64 (yt + t)] w fun e w' => e = .returned (.bool (!y5)) ∧ w = w') := Lib.hid (fun w => far_any (yt + t) w y5 h5)
            have N6 : Hid (∀ w, Calls Try.prog 15 #[.int .i64 (yb + b)] w fun e w' => e = .returned (.bool (!y6)) ∧ w = w') := Lib.hid (fun w => far_any (yb + b) w y6 h6)
            have H1 := Lib.hid h1; have H2 := Lib.hid h2; have H3 := Lib.hid h3; have H4 := Lib.hid h4; have H5 := Lib.hid h5; have H6 := Lib.hid h6
            have HNN := Lib.hid hn
            clear h1 h2 h3 h4 h5 h6 hn
            cases y1 with
            | false =>
              go_wp2_with fail
              refine (N1.out _).mono ?_
              rintro _ _ ⟨rfl, rfl⟩
              go_wp2_with fail
              go_meet
              exact ⟨rfl, B9⟩
            | true =>
              go_wp2_with fail
              refine (N1.out _).mono ?_
              rintro _ _ ⟨rfl, rfl⟩
              cases y2 with
              | false =>
                go_wp2_with fail
                refine (N2.out _).mono ?_
                rintro _ _ ⟨rfl, rfl⟩
                go_wp2_with fail
                go_meet
                exact ⟨rfl, B9⟩
              | true =>
                go_wp2_with fail
                refine (N2.out _).mono ?_
                rintro _ _ ⟨rfl, rfl⟩
                cases y3 with
                | false =>
                  go_wp2_with fail
                  refine (N3.out _).mono ?_
                  rintro _ _ ⟨rfl, rfl⟩
                  go_wp2_with fail
                  go_meet
                  exact ⟨rfl, B9⟩
                | true =>
                  go_wp2_with fail
                  refine (N3.out _).mono ?_
                  rintro _ _ ⟨rfl, rfl⟩
                  cases y4 with
                  | false =>
                    go_wp2_with fail
                    refine (N4.out _).mono ?_
                    rintro _ _ ⟨rfl, rfl⟩
                    go_wp2_with fail
                    go_meet
                    exact ⟨rfl, B9⟩
                  | true =>
                    go_wp2_with fail
                    refine (N4.out _).mono ?_
                    rintro _ _ ⟨rfl, rfl⟩
                    have u1 := H1.out.1 (by simp); have u2 := H2.out.1 (by simp); have u3 := H3.out.1 (by simp); have u4 := H4.out.1 (by simp)
                    obtain ⟨u11, u12⟩ := u1; obtain ⟨u21, u22⟩ := u2; obtain ⟨u31, u32⟩ := u3; obtain ⟨u41, u42⟩ := u4
                    cases y5 with
                    | false =>
                      go_wp2_with fail
                      refine (N5.out _).mono ?_
                      rintro _ _ ⟨rfl, rfl⟩
                      go_wp2_with fail
                      go_meet
                      exact ⟨rfl, B9⟩
                    | true =>
                      go_wp2_with fail
                      refine (N5.out _).mono ?_
                      rintro _ _ ⟨rfl, rfl⟩
                      cases y6 with
                      | false =>
                        go_wp2_with fail
                        refine (N6.out _).mono ?_
                        rintro _ _ ⟨rfl, rfl⟩
                        go_wp2_with fail
                        go_meet
                        exact ⟨rfl, B9⟩
                      | true =>
                        exact absurd ⟨H1.out.1 (by simp), H2.out.1 (by simp), H3.out.1 (by simp), H4.out.1 (by simp), H5.out.1 (by simp), H6.out.1 (by simp)⟩ HNN.out
          | lists hR hn hx => exact absurd hn HQ.out.2
          | yes hR hn hx => exact absurd hn HQ.out.2
        case rest =>
          obtain ⟨rfl, HB⟩ := hcut
          have XZ8 := Lib.hid (XZ7.out.on HB.out); have XM8 := Lib.hid (XM7.out.on HB.out); have XY8 := Lib.hid (XY7.out.on HB.out); have XS8 := Lib.hid (XS7.out.on HB.out)
          have V18 := Lib.hid (V17.out.on HB.out); have V28 := Lib.hid (V27.out.on HB.out); have V38 := Lib.hid (V37.out.on HB.out); have V48 := Lib.hid (V47.out.on HB.out)
          have BW8 := Lib.hid (below_step BW7.out HB.out)
          clear HB XZ7 XM7 XS7 XY7 V17 V27 V37 V47 BW7
          obtain ⟨z0, z1, z2, z3, z4⟩ := box5 XZ8.out
          obtain ⟨m0, m1, m2, m3, m4⟩ := box5 XM8.out
          go_upto_region 17 with fail
          go_cut [16, 17] (fun p q wx => ∃ G H : Nat, p = .pointer (some ⟨G, 0, none⟩) ∧ q = .pointer (some ⟨H, 0, none⟩) ∧ Hid (Box wx G [.int .i64 s.rt, .int .i64 s.rb, .int .i64 s.rx, .slice P5 s.rp.length cp5, .slice O5 s.ro.length co5]) ∧ Hid (Box wx H [.int .i64 s.ct, .int .i64 s.cb, .int .i64 s.cx, .slice P6 s.cp.length cp6, .slice O6 s.co.length co6]) ∧ Hid (Below wc.heap.size wc wx))
          case first =>
            have ZW : (wc.cell? ⟨Z, 0, none⟩ = some (.int .i64 s.rt) ∧ wc.cell? ⟨Z, 1, none⟩ = some (.int .i64 s.rb) ∧ wc.cell? ⟨Z, 2, none⟩ = some (.int .i64 s.rx) ∧ wc.cell? ⟨Z, 3, none⟩ = some (.slice P5 s.rp.length cp5) ∧ wc.cell? ⟨Z, 4, none⟩ = some (.slice O5 s.ro.length co5)) ∧ wc.cell? ⟨Z + 1, 0, none⟩ = some (.int .i64 s.ct) ∧ wc.cell? ⟨Z + 1, 1, none⟩ = some (.int .i64 s.cb) ∧ wc.cell? ⟨Z + 1, 2, none⟩ = some (.int .i64 s.cx) ∧ wc.cell? ⟨Z + 1, 3, none⟩ = some (.slice P6 s.cp.length cp6) ∧ wc.cell? ⟨Z + 1, 4, none⟩ = some (.slice O6 s.co.length co6) := ⟨⟨z0, z1, z2, z3, z4⟩, m0, m1, m2, m3, m4⟩
            have bA : ∀ o, Below wc.heap.size wc ((wc.alloc o).drew) := fun o => ((Below.refl _ _).alloc (Nat.le_refl _) _).drew
            have bB : ∀ o o', Below wc.heap.size wc (((wc.alloc o).alloc o').drew) := fun o o' => (((Below.refl _ _).alloc (Nat.le_refl _) _).alloc (by simp) _).drew
            have ZZ := keep55 ((Below.refl wc.heap.size wc).drew) ZW
            have ZA := fun o => keep55 (bA o) ZW
            have ZB := fun o o' => keep55 (bB o o') ZW
            clear z0 z1 z2 z3 z4 m0 m1 m2 m3 m4
            go_region_held3 (fun w' => (w'.cell? ⟨Z, 0, none⟩ = some (.int .i64 s.rt) ∧ w'.cell? ⟨Z, 1, none⟩ = some (.int .i64 s.rb) ∧ w'.cell? ⟨Z, 2, none⟩ = some (.int .i64 s.rx) ∧ w'.cell? ⟨Z, 3, none⟩ = some (.slice P5 s.rp.length cp5) ∧ w'.cell? ⟨Z, 4, none⟩ = some (.slice O5 s.ro.length co5)) ∧ w'.cell? ⟨Z + 1, 0, none⟩ = some (.int .i64 s.ct) ∧ w'.cell? ⟨Z + 1, 1, none⟩ = some (.int .i64 s.cb) ∧ w'.cell? ⟨Z + 1, 2, none⟩ = some (.int .i64 s.cx) ∧ w'.cell? ⟨Z + 1, 3, none⟩ = some (.slice P6 s.cp.length cp6) ∧ w'.cell? ⟨Z + 1, 4, none⟩ = some (.slice O6 s.co.length co6))
              (first
                | with_reducible exact ZZ
                | with_reducible exact ZA _
                | with_reducible exact ZB _ _)
              (fail)
            all_goals
              clear ZW ZZ ZA ZB bA bB
              go_wp2_with fail
              go_meet
            · obtain ⟨e1, e2, e3⟩ := enter2d wc 41 41 [.int .i64 s.rt, .int .i64 s.rb, .int .i64 s.rx, .slice P5 s.rp.length cp5, .slice O5 s.ro.length co5] [.int .i64 s.ct, .int .i64 s.cb, .int .i64 s.cx, .slice P6 s.cp.length cp6, .slice O6 s.co.length co6]
              exact ⟨_, _, rfl, rfl, Lib.hid e1, Lib.hid e2, Lib.hid e3⟩
            · obtain ⟨e1, e2, e3⟩ := enter2d wc 41 41 [.int .i64 s.ct, .int .i64 s.cb, .int .i64 s.cx, .slice P6 s.cp.length cp6, .slice O6 s.co.length co6] [.int .i64 s.rt, .int .i64 s.rb, .int .i64 s.rx, .slice P5 s.rp.length cp5, .slice O5 s.ro.length co5]
              exact ⟨_, _, rfl, rfl, Lib.hid e2, Lib.hid e1, Lib.hid e3⟩
          case rest =>
            obtain ⟨G, K, rfl, rfl, HG, HK, HB⟩ := hcut
            have XY9 := Lib.hid (XY8.out.on HB.out); have XS9 := Lib.hid (XS8.out.on HB.out)
            have V19 := Lib.hid (V18.out.on HB.out); have V29 := Lib.hid (V28.out.on HB.out); have V39 := Lib.hid (V38.out.on HB.out); have V49 := Lib.hid (V48.out.on HB.out)
            have BW9 := Lib.hid (below_step BW8.out HB.out)
            clear HB XZ8 XM8 XY8 XS8 V18 V28 V38 V48 BW8 z0 z1 z2 z3 z4 m0 m1 m2 m3 m4
            obtain ⟨E, hE⟩ : ∃ E, s.e = E := ⟨_, rfl⟩
            rw [hE]
            obtain ⟨e, he, rfl⟩ := stp_no HS.out (by have hq := HQ.out; exact fun k => hq.2 k.2.1)
            · obtain rfl : e = E := hE
              have hE0 : (e != 0) = true := bne_iff_ne.2 he
              have hEE : (e == e) = true := beq_self_eq_true _
              have HG' : Hid (Box wc G [.int .i64 0, .int .i64 0, .int .i64 0, .slice P5 0 cp5, .slice O5 0 co5]) := HG
              have HK' : Hid (Box wc K [.int .i64 0, .int .i64 0, .int .i64 0, .slice P6 0 cp6, .slice O6 0 co6]) := HK
              have CS1 : Hid (∀ w', Below wc.heap.size wc w' → Calls Try.prog 16 #[.agg #[.int .i64 0, .int .i64 0, .int .i64 0, .slice P5 0 cp5, .slice O5 0 co5], .agg #[.int .i64 0, .int .i64 0, .int .i64 0, .slice none 0 0, .slice none 0 0]] w' fun e w'' => e = .returned (.bool true) ∧ Below w'.heap.size w' w'') := Lib.hid (fun w' h => rsame_yes (lp := []) (lo := []) (V19.out.on h) (V29.out.on h) (vsl_nil _) (vsl_nil _))
              have CS2 : Hid (∀ w', Below wc.heap.size wc w' → Calls Try.prog 16 #[.agg #[.int .i64 0, .int .i64 0, .int .i64 0, .slice P6 0 cp6, .slice O6 0 co6], .agg #[.int .i64 0, .int .i64 0, .int .i64 0, .slice none 0 0, .slice none 0 0]] w' fun e w'' => e = .returned (.bool true) ∧ Below w'.heap.size w' w'') := Lib.hid (fun w' h => rsame_yes (lp := []) (lo := []) (V39.out.on h) (V49.out.on h) (vsl_nil _) (vsl_nil _))
              clear HG HK V19 V29 V39 V49 he HS
              obtain ⟨g0, g1, g2, g3, g4⟩ := box5 HG'.out
              go_wp2_with fail
              refine (CS1.out _ (Below.refl _ _)).mono ?_
              rintro _ wa ⟨rfl, ba⟩
              have HK2 := Lib.hid (HK'.out.on ba); have BA := Lib.hid ba
              clear ba g0 g1 g2 g3 g4 HK' HG'
              obtain ⟨g0, g1, g2, g3, g4⟩ := box5 HK2.out
              go_wp2_with fail
              refine (CS2.out _ BA.out).mono ?_
              rintro _ wb ⟨rfl, bb⟩
              have BB := Lib.hid (below_step (below_step BW9.out BA.out) bb)
              clear bb g0 g1 g2 g3 g4 HK2
              go_wp2_with fail
              refine (awake_any _).mono ?_
              rintro _ wd ⟨rfl, bd⟩
              have BD := Lib.hid (below_step BB.out bd)
              clear bd
              go_wp2_with fail
              go_ret
              exact ⟨rfl, BD.out⟩
end Go.Proofs.Ytpfpcnfodjmgcaa
