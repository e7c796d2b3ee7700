/-
  WithholdStep: what is not refused.
-/
import Derived.Test.YtpfpcnfodjmgcaaLaw14StepKitG
import Derived.Deep.QuietTactic
import Derived.BigQuiet
namespace Go.Proofs.Ytpfpcnfodjmgcaa
open Go.RowKit

set_option maxHeartbeats 6400000 in
set_option maxRecDepth 100000 in
theorem lstep_yes {A F P O : Option Addr} {n ca m cf np cp no co : Nat} {a r : Nat → Int} {l : List PWh.Fund} {w : World} {yt yb yx t b : Int} {lyp lyo : List Int} (hA : SlP w A n a r) (hF : SlF w F m l) (hp : VSl w (.slice P np cp) lyp) (ho : VSl w (.slice O no co) lyo)
    (h40 : n ≤ 40 ∧ m ≤ 40) (h60 : np ≤ 60 ∧ no ≤ 60) (hyx : -9223372036854775808 ≤ yx ∧ yx ≤ 9223372036854775807) (hq : PWh.Rt a r n l ∧ Near6 yt yb t b ∧ Fit np no m) :
    Calls Try.prog 4 #[.agg #[.slice A n ca, .slice F m cf], .agg #[.int .i64 yt, .int .i64 yb, .int .i64 yx, .slice P np cp, .slice O no co], .int .i64 t, .int .i64 b] w fun e w' => e = .returned (.bool true) ∧ Below w.heap.size w w' := by
  have HQ := Lib.hid hq
  clear hq
  have SM := Lib.hid (fun w => small_yes (A := A) (F := F) (ca := ca) (cf := cf) w h40)
  have HA := Lib.hid hA; have HF := Lib.hid hF; have HP := Lib.hid hp; have HO := Lib.hid ho
  have hpn : lyp.length = np := by obtain ⟨_, _, h, _⟩ := hp; injection h with _ h _; exact h.symm
  have hon : lyo.length = no := by obtain ⟨_, _, h, _⟩ := ho; injection h with _ h _; exact h.symm
  have HPN := Lib.hid hpn; have HON := Lib.hid hon
  have cP : P = none → cp = 0 := by obtain ⟨_, _, h, h1, _⟩ := hp; injection h with h2 _ h3; subst h2; subst h3; exact h1
  have cO : O = none → co = 0 := by obtain ⟨_, _, h, h1, _⟩ := ho; injection h with h2 _ h3; subst h2; subst h3; exact h1
  have sP : Sl w P np lyp := by obtain ⟨_, _, h, _, _, h1⟩ := hp; injection h with h2 h3 _; subst h2; rw [h3]; exact h1
  have sO : Sl w O no lyo := by obtain ⟨_, _, h, _, _, h1⟩ := ho; injection h with h2 h3 _; subst h2; rw [h3]; exact h1
  have HM40 := Lib.hid h40.2
  have HSP := Lib.hid sP; have HSO := Lib.hid sO; have CP := Lib.hid cP; have CO := Lib.hid cO
  have HI : Hid (In64 ([yx] ++ lyp ++ lyo)) := Lib.hid (in64_app (in64_app (fun i hi => by
    have : i = 0 := by simp at hi; omega
    subst this; simpa [List.getD] using hyx) (fun i hi => sP.2.1 i (by omega))) (fun i hi => sO.2.1 i (by omega)))
  have HLV : Hid (([yx] ++ lyp ++ lyo).length = 1 + np + no) := Lib.hid (by rw [List.length_append, List.length_append, hpn, hon]; rfl)
  obtain ⟨h61, h62⟩ := h60
  have i61 : ¬ (60 : Int) < (np : Int) := by omega
  have i62 : ¬ (60 : Int) < (no : Int) := by omega
  clear hA hF hp ho hpn hon cP cO sP sO h40
  go_enter Try.func4, Try.ntmps4
  go_upto_region 1 with fail
  obtain ⟨w1, hw1, XS, XY, b1, hs1⟩ := enter2 w 25 30 [.slice A n ca, .slice F m cf] [.int .i64 yt, .int .i64 yb, .int .i64 yx, .slice P np cp, .slice O no co]
  rw [hw1]
  obtain ⟨L, hL⟩ : ∃ L, w.heap.size = L := ⟨_, rfl⟩
  rw [hL] at XS XY hs1 ⊢
  have XS1 := Lib.hid XS; have XY1 := Lib.hid XY; have B1 := Lib.hid b1; have HLw := Lib.hid hL
  clear hw1 hL b1 XS XY hs1
  obtain ⟨c0, c1⟩ := box2 XS1.out
  obtain ⟨y0, y1, y2, y3, y4⟩ := box5 XY1.out
  go_wp2_with fail
  refine (SM.out _).mono ?_
  rintro _ w2 ⟨rfl, b2⟩
  have XS2 := Lib.hid (XS1.out.on b2); have XY2 := Lib.hid (XY1.out.on b2); have B2 := Lib.hid (below_step B1.out b2)
  clear b2 XS1 XY1 B1 c0 c1 y0 y1 y2 y3 y4 SM
  obtain ⟨y0, y1, y2, y3, y4⟩ := box5 XY2.out
  go_upto_region 3 with fail
  go_cut [43, 44, 45] (fun v q i wx => ∃ (R : Option Addr) (cr : Nat), v = .slice R (1 + np + no) cr ∧ q = .int .i64 ((1 + np + no : Nat) : Int) ∧ i = .int .i64 0 ∧ Hid (Sl wx R (1 + np + no) ([yx] ++ lyp ++ lyo)) ∧ Hid (Below w2.heap.size w2 wx))
  case first =>
    have hLs : L + 1 < w2.heap.size := XY2.out.1
    have bA : Below w2.heap.size w2 ((w2.alloc (.cells #[.int .i64 yx] 3)).drew) := ((Below.refl _ _).alloc (Nat.le_refl _) _).drew
    have ZZ : w2.drew.cell? ⟨L + 1, 2, none⟩ = some (.int .i64 yx) ∧ w2.drew.cell? ⟨L + 1, 3, none⟩ = some (.slice P np cp) ∧ w2.drew.cell? ⟨L + 1, 4, none⟩ = some (.slice O no co) := ⟨y2, y3, y4⟩
    have ZA := keepB3 bA hLs (show w2.cell? ⟨L + 1, 2, none⟩ = some (.int .i64 yx) ∧ w2.cell? ⟨L + 1, 3, none⟩ = some (.slice P np cp) ∧ w2.cell? ⟨L + 1, 4, none⟩ = some (.slice O no co) from ⟨y2, y3, y4⟩)
    have O1 := own_lit1 w2 yx
    have S1 := (HSP.out.on B2.out).on bA
    have S20 := HSO.out.on B2.out
    have hs2 : w2.heap.size ≤ ((w2.alloc (.cells #[.int .i64 yx] 3)).drew).heap.size := bA.size
    have n1 : 1 + np ≤ 1000 := by omega
    have n2 : 1 + np + no ≤ 1000 := by omega
    have cP := CP.out; have cO := CO.out
    go_region_held3 (fun w' => w'.cell? ⟨L + 1, 2, none⟩ = some (.int .i64 yx) ∧ w'.cell? ⟨L + 1, 3, none⟩ = some (.slice P np cp) ∧ w'.cell? ⟨L + 1, 4, none⟩ = some (.slice O no co))
      (first
        | with_reducible exact ZZ
        | with_reducible exact ZA
        | with_reducible exact Z3
        | with_reducible exact Z4)
      (first
        | (refine step_append_sl _ rfl _ _ rfl w2.heap.size _ 1 [yx] rfl O1 P np cp lyp rfl cP S1 n1 hs2 ?_; intro p' w3 hown3 hb3 hk3 hc3; obtain ⟨P3, c3, rfl⟩ := own_shape hown3; have Z3 := keepB3 hb3 hLs ZA; have b3 := bA.trans hb3; have S3 := S20.on b3; have hs3 := b3.size)
        | (refine step_append_sl _ rfl _ _ rfl w2.heap.size _ _ _ rfl hown3 O no co lyo rfl cO S3 n2 hs3 ?_; intro q' w4 hown4 hb4 hk4 hc4; obtain ⟨Q4, c4, rfl⟩ := own_shape hown4; have Z4 := keepB3 hb4 hLs Z3))
    all_goals
      have BW : Below w2.heap.size w2 w4 := (bA.trans hb3).trans hb4
      obtain ⟨R, cr, e, _, _, _, hs⟩ := sl_of_own hown4 HI.out (by omega)
      injection e with e1 e2 e3
      subst e1; subst e3
      have HS := Lib.hid hs; have HB := Lib.hid BW
      clear BW hs ZZ ZA Z3 Z4 O1 S1 S3 S20 bA hb3 hb4 hk3 hk4 hc3 hc4 hown3 hown4 b3
      go_wp2_with fail
      go_meet
      exact ⟨Q4, c4, rfl, rfl, rfl, HS, HB⟩
  case rest =>
    obtain ⟨R, cr, rfl, rfl, rfl, HS, HB⟩ := hcut
    clear y0 y1 y2 y3 y4
    obtain ⟨N, hN⟩ : ∃ N, 1 + np + no = N := ⟨_, rfl⟩
    have hN121 : N ≤ 121 := by omega
    rw [hN] at HS HLV ⊢
    have HNN := Lib.hid hN
    obtain ⟨V, hV⟩ : ∃ V, [yx] ++ lyp ++ lyo = V := ⟨_, rfl⟩
    rw [hV] at HS HLV HI
    have HVV := Lib.hid hV
    clear hN hV
    go_wp2_with fail
    go_loopw [45] (fun i wr => ∃ k : Nat, k ≤ N ∧ i = .int .i64 k ∧ Hid (∀ j, j < k → W60 (V.getD j 0)) ∧ Hid (Below wc.heap.size wc wr)) (fun i _ => N - (intOf i).toNat)
    case atStart => exact ⟨0, Nat.zero_le _, rfl, (show Hid _ from fun j hj => by omega), (show Hid _ from Below.refl _ _)⟩
    case round =>
      obtain ⟨k, hk, rfl, HK, HW⟩ := hrel
      by_cases hlt : k < N
      · obtain ⟨d, off, rfl, hc⟩ := sl_cell (HS.out.on HW.out) hlt
        have q1 := hc k hlt
        have hn := HK.out
        obtain ⟨v, hv⟩ : ∃ v, V.getD k 0 = v := ⟨_, rfl⟩
        rw [hv] at q1
        have HVk := Lib.hid hv
        have i1 : (0 : Int) ≤ (k : Int) := by omega
        have i2 : (k : Int) < (N : Int) := by omega
        clear hc hn hv
        by_cases g1 : 1152921504606846976 < v
        · go_wp2_with fail
          refine (awake_any _).mono ?_
          rintro _ w9 ⟨rfl, b9⟩
          have B9 := Lib.hid (below_step (below_step (below_step B2.out HB.out) HW.out) b9)
          clear b9
          go_wp2_with fail
          go_ret
          exact ⟨rfl, B9.out⟩
        by_cases g2 : v < -1152921504606846976
        · go_wp2_with fail
          refine (awake_any _).mono ?_
          rintro _ w9 ⟨rfl, b9⟩
          have B9 := Lib.hid (below_step (below_step (below_step B2.out HB.out) HW.out) b9)
          clear b9
          go_wp2_with fail
          go_ret
          exact ⟨rfl, B9.out⟩
        have HK2 : Hid (∀ j, j < k + 1 → W60 (V.getD j 0)) := Lib.hid (fun j hj => by
          by_cases e : j = k
          · subst e; rw [HVk.out]; unfold W60; omega
          · exact HK.out j (by omega))
        go_wp2_with fail
        exact ⟨⟨k + 1, by omega, by congr 1, HK2, HW⟩, by simp [intOf]; omega⟩
      · obtain rfl : k = N := by omega
        have hk1 := HK.out
        have w60 : W60 yx ∧ W60L lyp ∧ W60L lyo := w60_parts HVV.out HPN.out HON.out (by rw [HNN.out]; exact hk1)
        obtain ⟨s, hs, hC⟩ := lstep_spec (ca := ca) (cf := cf) (t := t) (b := b) (yt := yt) (yb := yb) HA.out HF.out HP.out HO.out w60.1 w60.2.1 w60.2.2
        have HC := Lib.hid hC; have HS := Lib.hid hs; have H60 := Lib.hid w60
        have BW := Lib.hid (below_step (below_step B2.out HB.out) HW.out)
        have XS3 := Lib.hid ((XS2.out.on HB.out).on HW.out); have XY3 := Lib.hid ((XY2.out.on HB.out).on HW.out)
        clear hk1 hC hs w60 HK HB HW B2 XS2 XY2 HVV HLV HI
        obtain ⟨c0, c1⟩ := box2 XS3.out
        obtain ⟨y0, y1, y2, y3, y4⟩ := box5 XY3.out
        go_wp2_with fail
        refine (HC.out _ BW.out).mono ?_
        rintro _ w5 ⟨p, o, p', o', rfl, v1, v2, v3, v4, b5, -, -, -, -⟩
        obtain ⟨P5, cp5, rfl, nP5, lP5, sP5⟩ := v1
        obtain ⟨O5, co5, rfl, nO5, lO5, sO5⟩ := v2
        obtain ⟨P6, cp6, rfl, nP6, lP6, sP6⟩ := v3
        obtain ⟨O6, co6, rfl, nO6, lO6, sO6⟩ := v4
        have V1 := Lib.hid (show VSl w5 _ s.rp from ⟨P5, cp5, rfl, nP5, lP5, sP5⟩); have V2 := Lib.hid (show VSl w5 _ s.ro from ⟨O5, co5, rfl, nO5, lO5, sO5⟩)
        have V3 := Lib.hid (show VSl w5 _ s.cp from ⟨P6, cp6, rfl, nP6, lP6, sP6⟩); have V4' := Lib.hid (show VSl w5 _ s.co from ⟨O6, co6, rfl, nO6, lO6, sO6⟩)
        have BW5 := Lib.hid (below_step BW.out b5); have XS5 := Lib.hid (XS3.out.on b5); have XY5 := Lib.hid (XY3.out.on b5)
        clear b5 c0 c1 y0 y1 y2 y3 y4 BW XS3 XY3 HC nP5 lP5 sP5 nO5 lO5 sO5 nP6 lP6 sP6 nO6 lO6 sO6
        unfold yrV
        go_upto_region 10 with fail
        obtain ⟨w6, hw6, XZ, XM, b6, hs6⟩ := enter2 w5 30 30 [.int .i64 s.rt, .int .i64 s.rb, .int .i64 s.rx, .slice P5 s.rp.length cp5, .slice O5 s.ro.length co5] [.int .i64 s.ct, .int .i64 s.cb, .int .i64 s.cx, .slice P6 s.cp.length cp6, .slice O6 s.co.length co6]
        rw [hw6]
        obtain ⟨Z, hZ⟩ : ∃ Z, w5.heap.size = Z := ⟨_, rfl⟩
        rw [hZ] at XZ XM hs6 ⊢
        have XZ6 := Lib.hid XZ; have XM6 := Lib.hid XM
        have BW6 := Lib.hid (below_step BW5.out b6); have XS6 := Lib.hid (XS5.out.on b6); have XY6 := Lib.hid (XY5.out.on b6)
        have V16 := Lib.hid (V1.out.on b6); have V26 := Lib.hid (V2.out.on b6); have V36 := Lib.hid (V3.out.on b6); have V46 := Lib.hid (V4'.out.on b6)
        clear hw6 XZ XM b6 hs6 hZ BW5 XS5 XY5 V1 V2 V3 V4'
        obtain ⟨c0, c1⟩ := box2 XS6.out
        go_wp2_with fail
        go_quiet (fail)
        have bq : Below w6.heap.size w6 (w6.drewN nq) := below_drewN (Below.refl _ _) _
        have XZ7 := Lib.hid (XZ6.out.on bq); have XM7 := Lib.hid (XM6.out.on bq); have XS7 := Lib.hid (XS6.out.on bq); have XY7 := Lib.hid (XY6.out.on bq)
        have BW7 := Lib.hid (below_step BW6.out bq)
        have V17 := Lib.hid (V16.out.on bq); have V27 := Lib.hid (V26.out.on bq); have V37 := Lib.hid (V36.out.on bq); have V47 := Lib.hid (V46.out.on bq)
        generalize w6.drewN nq = w7 at *
        clear bq c0 c1 XZ6 XM6 XS6 XY6 BW6 V16 V26 V36 V46
        go_upto_block 2 with fail
        go_cut [14] (fun x wx => x = .int .i64 s.e ∧ Hid (Below w7.heap.size w7 wx))
        case first =>
          have CR := Lib.hid (lref_any (A := A) (n := n) (ca := ca) (cf := cf) (HF.out.on BW7.out) HM40.out)
          obtain ⟨c0, c1⟩ := box2 XS7.out
          go_wp2_with fail
          refine CR.out.mono ?_
          rintro _ w8 ⟨F7, cf7, rfl, sf7, b8⟩
          clear c0 c1 CR
          go_wp2_with fail
          cases HS.out with
          | wrong hR => exact absurd HQ.out.1 hR
          | far hR hn => exact absurd HQ.out.2.1 hn
          | lists hR hn hx => exact absurd HQ.out.2.2 hx
          | yes hR hn hx =>
            refine (rwright_any (A := A) (n := n) (ca := ca) (cf := cf7) ((HA.out.on BW7.out).on b8) sf7 (bb := true) ⟨fun _ => hR, fun _ => rfl⟩).mono ?_
            rintro _ w9 ⟨rfl, b9⟩
            have B9 : Hid (Below w7.heap.size w7 w9) := Lib.hid (below_step b8 b9)
            obtain ⟨z0, z1, z2, z3, z4⟩ := box5 ((XY7.out.on b8).on b9)
            clear b8 b9 sf7
            have N1 : Hid (∀ w, Calls Try.prog 15 #[.int .i64 yt] w fun e w' => e = .returned (.bool (!true)) ∧ w = w') := Lib.hid (fun w => far_any yt w true ⟨fun _ => hn.1, fun _ => rfl⟩)
            have N2 : Hid (∀ w, Calls Try.prog 15 #[.int .i64 t] w fun e w' => e = .returned (.bool (!true)) ∧ w = w') := Lib.hid (fun w => far_any t w true ⟨fun _ => hn.2.1, fun _ => rfl⟩)
            have N3 : Hid (∀ w, Calls Try.prog 15 #[.int .i64 yb] w fun e w' => e = .returned (.bool (!true)) ∧ w = w') := Lib.hid (fun w => far_any yb w true ⟨fun _ => hn.2.2.1, fun _ => rfl⟩)
            have N4 : Hid (∀ w, Calls Try.prog 15 #[.int .i64 b] w fun e w' => e = .returned (.bool (!true)) ∧ w = w') := Lib.hid (fun w => far_any b w true ⟨fun _ => hn.2.2.2.1, fun _ => rfl⟩)
            have N5 : Hid (∀ w, Calls Try.prog 15 #[.int .i64 (yt + t)] w fun e w' => e = .returned (.bool (!true)) ∧ w = w') := Lib.hid (fun w => far_any (yt + t) w true ⟨fun _ => hn.2.2.2.2.1, fun _ => rfl⟩)
            have N6 : Hid (∀ w, Calls Try.prog 15 #[.int .i64 (yb + b)] w fun e w' => e = .returned (.bool (!true)) ∧ w = w') := Lib.hid (fun w => far_any (yb + b) w true ⟨fun _ => hn.2.2.2.2.2, fun _ => rfl⟩)
            obtain ⟨⟨u11, u12⟩, ⟨u21, u22⟩, ⟨u31, u32⟩, ⟨u41, u42⟩, -, -⟩ := hn
            go_wp2_with fail
            refine (N1.out _).mono ?_
            rintro _ _ ⟨rfl, rfl⟩
            go_wp2_with fail
            refine (N2.out _).mono ?_
            rintro _ _ ⟨rfl, rfl⟩
            go_wp2_with fail
            refine (N3.out _).mono ?_
            rintro _ _ ⟨rfl, rfl⟩
            go_wp2_with fail
            refine (N4.out _).mono ?_
            rintro _ _ ⟨rfl, rfl⟩
            go_wp2_with fail
            refine (N5.out _).mono ?_
            rintro _ _ ⟨rfl, rfl⟩
            go_wp2_with fail
            refine (N6.out _).mono ?_
            rintro _ _ ⟨rfl, rfl⟩
            obtain ⟨hp, ho⟩ := hx
            by_cases hp0 : np = 0
            · have gp0 : ((np : Int) != 0) = false := by rw [hp0]; rfl
              clear hp hp0
              by_cases ho0 : no = 0
              · have go0 : ((no : Int) != 0) = false := by rw [ho0]; rfl
                clear ho ho0
                go_wp2_with fail
                go_meet
                exact ⟨rfl, B9⟩
              · have go0 : ((no : Int) != 0) = true := by rw [bne_iff_ne]; omega
                have gom : ((no : Int) != (m : Int)) = false := by rw [show no = m by omega]; exact bne_self_eq_false _
                clear ho ho0
                go_wp2_with fail
                go_meet
                exact ⟨rfl, B9⟩
            · have gp0 : ((np : Int) != 0) = true := by rw [bne_iff_ne]; omega
              have gpm : ((np : Int) != (m : Int)) = false := by rw [show np = m by omega]; exact bne_self_eq_false _
              clear hp hp0
              by_cases ho0 : no = 0
              · have go0 : ((no : Int) != 0) = false := by rw [ho0]; rfl
                clear ho ho0
                go_wp2_with fail
                go_meet
                exact ⟨rfl, B9⟩
              · have go0 : ((no : Int) != 0) = true := by rw [bne_iff_ne]; omega
                have gom : ((no : Int) != (m : Int)) = false := by rw [show no = m by omega]; exact bne_self_eq_false _
                clear ho ho0
                go_wp2_with fail
                go_meet
                exact ⟨rfl, B9⟩
        case rest =>
          obtain ⟨rfl, HB⟩ := hcut
          have XZ8 := Lib.hid (XZ7.out.on HB.out); have XM8 := Lib.hid (XM7.out.on HB.out); have XY8 := Lib.hid (XY7.out.on HB.out); have XS8 := Lib.hid (XS7.out.on HB.out)
          have V18 := Lib.hid (V17.out.on HB.out); have V28 := Lib.hid (V27.out.on HB.out); have V38 := Lib.hid (V37.out.on HB.out); have V48 := Lib.hid (V47.out.on HB.out)
          have BW8 := Lib.hid (below_step BW7.out HB.out)
          clear HB XZ7 XM7 XS7 XY7 V17 V27 V37 V47 BW7
          obtain ⟨z0, z1, z2, z3, z4⟩ := box5 XZ8.out
          obtain ⟨m0, m1, m2, m3, m4⟩ := box5 XM8.out
          go_upto_region 17 with fail
          go_cut [16, 17] (fun p q wx => ∃ G H : Nat, p = .pointer (some ⟨G, 0, none⟩) ∧ q = .pointer (some ⟨H, 0, none⟩) ∧ Hid (Box wx G [.int .i64 s.rt, .int .i64 s.rb, .int .i64 s.rx, .slice P5 s.rp.length cp5, .slice O5 s.ro.length co5]) ∧ Hid (Box wx H [.int .i64 s.ct, .int .i64 s.cb, .int .i64 s.cx, .slice P6 s.cp.length cp6, .slice O6 s.co.length co6]) ∧ Hid (Below wc.heap.size wc wx))
          case first =>
            have ZW : (wc.cell? ⟨Z, 0, none⟩ = some (.int .i64 s.rt) ∧ wc.cell? ⟨Z, 1, none⟩ = some (.int .i64 s.rb) ∧ wc.cell? ⟨Z, 2, none⟩ = some (.int .i64 s.rx) ∧ wc.cell? ⟨Z, 3, none⟩ = some (.slice P5 s.rp.length cp5) ∧ wc.cell? ⟨Z, 4, none⟩ = some (.slice O5 s.ro.length co5)) ∧ wc.cell? ⟨Z + 1, 0, none⟩ = some (.int .i64 s.ct) ∧ wc.cell? ⟨Z + 1, 1, none⟩ = some (.int .i64 s.cb) ∧ wc.cell? ⟨Z + 1, 2, none⟩ = some (.int .i64 s.cx) ∧ wc.cell? ⟨Z + 1, 3, none⟩ = some (.slice P6 s.cp.length cp6) ∧ wc.cell? ⟨Z + 1, 4, none⟩ = some (.slice O6 s.co.length co6) := ⟨⟨z0, z1, z2, z3, z4⟩, m0, m1, m2, m3, m4⟩
            have bA : ∀ o, Below wc.heap.size wc ((wc.alloc o).drew) := fun o => ((Below.refl _ _).alloc (Nat.le_refl _) _).drew
            have bB : ∀ o o', Below wc.heap.size wc (((wc.alloc o).alloc o').drew) := fun o o' => (((Below.refl _ _).alloc (Nat.le_refl _) _).alloc (by simp) _).drew
            have ZZ := keep55 ((Below.refl wc.heap.size wc).drew) ZW
            have ZA := fun o => keep55 (bA o) ZW
            have ZB := fun o o' => keep55 (bB o o') ZW
            clear z0 z1 z2 z3 z4 m0 m1 m2 m3 m4
            go_region_held3 (fun w' => (w'.cell? ⟨Z, 0, none⟩ = some (.int .i64 s.rt) ∧ w'.cell? ⟨Z, 1, none⟩ = some (.int .i64 s.rb) ∧ w'.cell? ⟨Z, 2, none⟩ = some (.int .i64 s.rx) ∧ w'.cell? ⟨Z, 3, none⟩ = some (.slice P5 s.rp.length cp5) ∧ w'.cell? ⟨Z, 4, none⟩ = some (.slice O5 s.ro.length co5)) ∧ w'.cell? ⟨Z + 1, 0, none⟩ = some (.int .i64 s.ct) ∧ w'.cell? ⟨Z + 1, 1, none⟩ = some (.int .i64 s.cb) ∧ w'.cell? ⟨Z + 1, 2, none⟩ = some (.int .i64 s.cx) ∧ w'.cell? ⟨Z + 1, 3, none⟩ = some (.slice P6 s.cp.length cp6) ∧ w'.cell? ⟨Z + 1, 4, none⟩ = some (.slice O6 s.co.length co6))
              (first
                | with_reducible exact ZZ
                | with_reducible exact ZA _
                | with_reducible exact ZB _ _)
              (fail)
            all_goals
              clear ZW ZZ ZA ZB bA bB
              go_wp2_with fail
              go_meet
            · obtain ⟨e1, e2, e3⟩ := enter2d wc 41 41 [.int .i64 s.rt, .int .i64 s.rb, .int .i64 s.rx, .slice P5 s.rp.length cp5, .slice O5 s.ro.length co5] [.int .i64 s.ct, .int .i64 s.cb, .int .i64 s.cx, .slice P6 s.cp.length cp6, .slice O6 s.co.length co6]
              exact ⟨_, _, rfl, rfl, Lib.hid e1, Lib.hid e2, Lib.hid e3⟩
            · obtain ⟨e1, e2, e3⟩ := enter2d wc 41 41 [.int .i64 s.ct, .int .i64 s.cb, .int .i64 s.cx, .slice P6 s.cp.length cp6, .slice O6 s.co.length co6] [.int .i64 s.rt, .int .i64 s.rb, .int .i64 s.rx, .slice P5 s.rp.length cp5, .slice O5 s.ro.length co5]
              exact ⟨_, _, rfl, rfl, Lib.hid e2, Lib.hid e1, Lib.hid e3⟩
          case rest =>
            obtain ⟨G, K, rfl, rfl, HG, HK, HB⟩ := hcut
            have XY9 := Lib.hid (XY8.out.on HB.out); have XS9 := Lib.hid (XS8.out.on HB.out)
            have V19 := Lib.hid (V18.out.on HB.out); have V29 := Lib.hid (V28.out.on HB.out); have V39 := Lib.hid (V38.out.on HB.out); have V49 := Lib.hid (V48.out.on HB.out)
            have BW9 := Lib.hid (below_step BW8.out HB.out)
            clear HB XZ8 XM8 XY8 XS8 V18 V28 V38 V48 BW8 z0 z1 z2 z3 z4 m0 m1 m2 m3 m4
            obtain ⟨E, hE⟩ : ∃ E, s.e = E := ⟨_, rfl⟩
            rw [hE]
            obtain rfl := stp_yes HS.out HQ.out
            have hR := HQ.out.1; have hn := HQ.out.2.1
            · obtain rfl : (0 : Int) = E := hE
              have hn' := hn
              unfold Near6 at hn'
              have mx := tax_mid hR.1 hn'.2.2.2.2.1.2
              have mp := midl_paid hR.2.2 hn'.2.2.2.2.2.2
              have mo := midl_owed hR.2.2 hn'.2.2.2.2.2.2
              have hm6 : l.length ≤ 6 := hR.2.1
              obtain ⟨T, hT⟩ : ∃ T, yt + t = T := ⟨_, rfl⟩
              obtain ⟨B, hB⟩ : ∃ B, yb + b = B := ⟨_, rfl⟩
              obtain ⟨X, hX⟩ : ∃ X, PBr.tax a r n (yt + t) = X := ⟨_, rfl⟩
              obtain ⟨lp, hlp⟩ : ∃ q, PWh.paid l (yb + b) = q := ⟨_, rfl⟩
              obtain ⟨lo, hlo⟩ : ∃ q, PWh.owed l (yb + b) = q := ⟨_, rfl⟩
              have HG' : Hid (Box wc G [.int .i64 T, .int .i64 B, .int .i64 (X : Int), .slice P5 lp.length cp5, .slice O5 lo.length co5]) := by rw [← hT, ← hB, ← hX, ← hlp, ← hlo]; exact HG
              have HK' : Hid (Box wc K [.int .i64 t, .int .i64 b, .int .i64 ((X : Int) - yx), .slice P6 (PWh.less lp lyp).length cp6, .slice O6 (PWh.less lo lyo).length co6]) := by rw [← hX, ← hlp, ← hlo]; exact HK
              have S1 : Hid (VSl wc (.slice P5 lp.length cp5) lp) := by rw [← hlp]; exact V19
              have S2 : Hid (VSl wc (.slice O5 lo.length co5) lo) := by rw [← hlo]; exact V29
              have S3 : Hid (VSl wc (.slice P6 (PWh.less lp lyp).length cp6) (PWh.less lp lyp)) := by rw [← hlp]; exact V39
              have S4 : Hid (VSl wc (.slice O6 (PWh.less lo lyo).length co6) (PWh.less lo lyo)) := by rw [← hlo]; exact V49
              have hX50 : (X : Int) ≤ 1125899906842624 := by have := mx; rw [← hX]; omega
              have CR : Hid (∀ w', Below wc.heap.size wc w' → Calls Try.prog 13 #[.agg #[.slice A n ca, .slice F m cf]] w' (SchR A n ca l w')) := Lib.hid (fun w' h => lref_any (HF.out.on (below_step BW9.out h)) HM40.out)
              have CD : Hid (∀ w' F' cf', Below wc.heap.size wc w' → SlF w' F' l.length l → Calls Try.prog 17 #[.agg #[.slice A n ca, .slice F' l.length cf'], .int .i64 T, .int .i64 B] w' (DueR T B X lp lo w')) := Lib.hid (fun w' F' cf' h hf => by
                rw [← hT, ← hB, ← hX, ← hlp, ← hlo]
                exact dueR_of (rdue_any (HA.out.on (below_step BW9.out h)) hf hR (by have := hn'.2.2.2.2.1.2; omega) (by have := hn'.2.2.2.2.2.1; omega)))
              have CL : Hid (∀ w' P' cp' O' co', Below wc.heap.size wc w' → VSl w' (.slice P' lp.length cp') lp → VSl w' (.slice O' lo.length co') lo → Calls Try.prog 19 #[.agg #[.int .i64 T, .int .i64 B, .int .i64 (X : Int), .slice P' lp.length cp', .slice O' lo.length co'], .agg #[.int .i64 yt, .int .i64 yb, .int .i64 yx, .slice P np cp, .slice O no co]] w' (YrR1 t b ((X : Int) - yx) (PWh.less lp lyp) (PWh.less lo lyo) w')) := Lib.hid (fun w' P' cp' O' co' h h1 h2 => by
                obtain ⟨w1, w2, w3⟩ := H60.out
                have g := rless_any (t := T) (b := B) (x := (X : Int)) (t' := yt) (b' := yb) (x' := yx) h1 h2 (HP.out.on (below_step BW9.out h)) (HO.out.on (below_step BW9.out h)) (by unfold PWh.Mid; have := hn'.2.2.2.2.1; unfold Nr at this; omega) (by unfold PWh.Mid; have := hn'.2.2.2.2.2; unfold Nr at this; omega) (by unfold PWh.Mid; omega) (by unfold PWh.Mid; have := hn'.1; unfold Nr at this; omega) (by unfold PWh.Mid; have := hn'.2.2.1; unfold Nr at this; omega) w1.mid (by rw [← hlp]; exact mp) (by rw [← hlo]; exact mo) w2.mid w3.mid (by rw [← hlp, PWh.paid_len]; omega) (by rw [← hlo, PWh.owed_len]; omega)
                rw [show T - yt = t by omega, show B - yb = b by omega] at g
                exact g)
              have CA : Hid (∀ w' P' cp' O' co', Below wc.heap.size wc w' → VSl w' (.slice P' lp.length cp') lp → VSl w' (.slice O' lo.length co') lo → Calls Try.prog 16 #[.agg #[.int .i64 T, .int .i64 B, .int .i64 (X : Int), .slice P5 lp.length cp5, .slice O5 lo.length co5], .agg #[.int .i64 T, .int .i64 B, .int .i64 (X : Int), .slice P' lp.length cp', .slice O' lo.length co']] w' fun e w'' => e = .returned (.bool true) ∧ Below w'.heap.size w' w'') := Lib.hid (fun w' P' cp' O' co' h h1 h2 => rsame_yes (S1.out.on h) (S2.out.on h) h1 h2)
              have CB : Hid (∀ w' p' o', Below wc.heap.size wc w' → VSl w' p' (PWh.less lp lyp) → VSl w' o' (PWh.less lo lyo) → Calls Try.prog 16 #[.agg #[.int .i64 t, .int .i64 b, .int .i64 ((X : Int) - yx), .slice P6 (PWh.less lp lyp).length cp6, .slice O6 (PWh.less lo lyo).length co6], yrV t b ((X : Int) - yx) p' o'] w' fun e w'' => e = .returned (.bool true) ∧ Below w'.heap.size w' w'') := Lib.hid (fun w' p' o' h h1 h2 => rsame_yes (S3.out.on h) (S4.out.on h) h1 h2)
              obtain ⟨n6, hn6⟩ : ∃ q, (PWh.less lp lyp).length = q := ⟨_, rfl⟩
              obtain ⟨n7, hn7⟩ : ∃ q, (PWh.less lo lyo).length = q := ⟨_, rfl⟩
              obtain ⟨Z2, hZ2⟩ : ∃ q, (X : Int) - yx = q := ⟨_, rfl⟩
              rw [hn6, hn7, hZ2] at HK' CB
              rw [hZ2] at CL
              have wT : IntKind.i64.wrap T = T := by rw [IntKind.wrap_i64]; have := hn'.2.2.2.2.1; unfold Nr at this; omega
              have wB : IntKind.i64.wrap B = B := by rw [IntKind.wrap_i64]; have := hn'.2.2.2.2.2; unfold Nr at this; omega
              have wT2 : yt + t = T := hT
              have wB2 : yb + b = B := hB
              clear HQ HG HK V19 V29 V39 V49 S1 S2 S3 S4 HS hn hn' mx mp mo hm6 hX hlp hlo hn6 hn7 hZ2 hX50 hR H60 HP HO HPN HON HSP HSO CP CO hT hB
              obtain ⟨y0, y1, y2, y3, y4⟩ := box5 XY9.out
              obtain ⟨c0, c1⟩ := box2 XS9.out
              go_upto_region 20 with fail
              have hLw : L + 1 < wc.heap.size := XY9.out.1
              have hLl : L < wc.heap.size := XS9.out.1
              have hG1 := ne_of hLl (Nat.le_refl _)
              have hG2 := ne_of hLw (Nat.le_refl _)
              go_cut [18] (fun g wx => ∃ (D : Nat) (P9 O9 : Option Addr) (k9 j9 : Nat), g = .pointer (some ⟨D, 0, none⟩) ∧ Hid (StpC wc D T B (X : Int) (.slice P9 lp.length k9) (.slice O9 lo.length j9) lp lo wx))
              case first =>
                have ZW : (wc.cell? ⟨L, 0, none⟩ = some (.slice A n ca) ∧ wc.cell? ⟨L, 1, none⟩ = some (.slice F m cf)) ∧ wc.cell? ⟨L + 1, 0, none⟩ = some (.int .i64 yt) ∧ wc.cell? ⟨L + 1, 1, none⟩ = some (.int .i64 yb) := ⟨⟨c0, c1⟩, y0, y1⟩
                have ZZ := keep22 ((Below.refl wc.heap.size wc).drew) ZW
                have bB : Below wc.heap.size wc ((wc.alloc (.cells #[.int .i64 0, .int .i64 0, .int .i64 0, .slice none 0 0, .slice none 0 0] 41)).drew) := ((Below.refl _ _).alloc (Nat.le_refl _) _).drew
                have ZB := keep22 bB ZW
                have C1 := CR.out wc.drew ((Below.refl wc.heap.size wc).drew)
                have C2 := CR.out _ bB
                have XA := Box.new wc 41 [.int .i64 0, .int .i64 0, .int .i64 0, .slice none 0 0, .slice none 0 0]
                have E1 := Lib.hid (fun (w5 : World) (F8 : Option Addr) (cf8 : Nat) (h : Below wc.drew.heap.size wc.drew w5) (sf : SlF w5 F8 l.length l) => CD.out w5 F8 cf8 (below_undrew h) sf)
                have E2 := Lib.hid (fun (w5 : World) (F8 : Option Addr) (cf8 : Nat) (h : Below wc.drew.heap.size wc.drew w5) (sf : SlF w5 F8 l.length l) => CD.out _ F8 cf8 ((below_undrew h).alloc h.size (.cells #[.int .i64 0, .int .i64 0, .int .i64 0, .slice none 0 0, .slice none 0 0] 41)) (sf.on ((Below.refl _ _).alloc (Nat.le_refl _) _)))
                have E3 := Lib.hid (fun (w5 : World) (F8 : Option Addr) (cf8 : Nat) (h : Below _ _ w5) (sf : SlF w5 F8 l.length l) => CD.out w5 F8 cf8 (below_step bB h) sf)
                clear CA CB CL CD CR c0 c1 y0 y1 y2 y3 y4
                go_region_held3 (fun w' => (w'.cell? ⟨L, 0, none⟩ = some (.slice A n ca) ∧ w'.cell? ⟨L, 1, none⟩ = some (.slice F m cf)) ∧ w'.cell? ⟨L + 1, 0, none⟩ = some (.int .i64 yt) ∧ w'.cell? ⟨L + 1, 1, none⟩ = some (.int .i64 yb))
                  (first
                    | with_reducible exact ZZ
                    | with_reducible exact ZB
                    | with_reducible exact Z5
                    | with_reducible exact Z6
                    | with_reducible exact ka22 Z5
                    | with_reducible exact ka22 Z6
                    | with_reducible exact far22 Z6 hG3 hG4 rfl
                    | with_reducible exact far22 Z6 hG1 hG2 rfl)
                  (first
                    | go_at_call 13
                      with_reducible
                        refine C1.mono ?_
                      rintro _ w5 ⟨F8, cf8, rfl, sf8, hb5⟩
                      have Z5 := keep22 hb5 ZZ
                      have D1 := E1.out w5 F8 cf8 hb5 sf8
                      have D2 := E2.out w5 F8 cf8 hb5 sf8
                      have hs5 := size_dr hb5
                      have hG3 := ne_of hLl hs5
                      have hG4 := ne_of hLw hs5
                    | go_at_call 13
                      with_reducible
                        refine C2.mono ?_
                      rintro _ w5 ⟨F8, cf8, rfl, sf8, hb5⟩
                      have Z5 := keep22 hb5 ZB
                      have D1 := E3.out w5 F8 cf8 hb5 sf8
                      have X5 := zon XA hb5
                    | go_at_call 17
                      with_reducible
                        refine D1.mono ?_
                      rintro _ w6 ⟨P9, k9, O9, j9, rfl, v1, v2, hb6, f1, f2⟩
                      have Z6 := keep22 hb6 Z5
                      have X6 := X5.on hb6
                      have x6a := box5 X6
                      have x6b := box5f X6
                      obtain ⟨x60, x61, x62, x63, x64⟩ := x6a
                      obtain ⟨x65, x66, x67, x68, x69⟩ := x6b
                    | go_at_call 17
                      with_reducible
                        refine D1.mono ?_
                      rintro _ w6 ⟨P9, k9, O9, j9, rfl, v1, v2, hb6, f1, f2⟩
                      have Z6 := keep22 hb6 Z5
                    | go_at_call 17
                      with_reducible
                        refine D2.mono ?_
                      rintro _ w6 ⟨P9, k9, O9, j9, rfl, v1, v2, hb6, f1, f2⟩
                      have Z6 := keep22z hb6 Z5
                      have X6 := zbox hb6
                      have x6a := box5 X6
                      have x6b := box5f X6
                      obtain ⟨x60, x61, x62, x63, x64⟩ := x6a
                      obtain ⟨x65, x66, x67, x68, x69⟩ := x6b)
                all_goals
                  clear ZW ZZ ZB C1 C2
                  go_wp2_with fail
                  go_meet
                  refine ⟨_, P9, O9, k9, j9, rfl, Lib.hid ?_⟩
                · exact stpc_new _ v1 v2 (below_step (below_undrew hb5) hb6) (f1.older hs5) (f2.older hs5)
                · exact stpc_set X6 v1 v2 (below_step (below_step (below_undrew hb5) ((Below.refl _ _).alloc (Nat.le_refl _) _)) hb6) hs5 (f1.apart (by simp)) (f2.apart (by simp)) (f1.older (by simp; omega)) (f2.older (by simp; omega))
                · have hs5 := hb5.size
                  exact stpc_set X6 v1 v2 (below_step (below_step ((Below.refl _ _).alloc (Nat.le_refl _) _) (below_undrew hb5)) hb6) (Nat.le_refl _) (f1.apart (by simp at hs5; omega)) (f2.apart (by simp at hs5; omega)) (f1.older (by simp at hs5; omega)) (f2.older (by simp at hs5; omega))
              case rest =>
                obtain ⟨D, P9, O9, k9, j9, rfl, HC⟩ := hcut
                have HD := Lib.hid HC.out.1; have W1 := Lib.hid HC.out.2.1; have W2 := Lib.hid HC.out.2.2.1; have BC := Lib.hid HC.out.2.2.2.1
                have HG2 := Lib.hid (HG'.out.on BC.out); have HK2 := Lib.hid (HK'.out.on BC.out); have XY10 := Lib.hid (XY9.out.on BC.out)
                clear HC c0 c1 y0 y1 y2 y3 y4 HG' HK' XY9 XS9 CR CD hLw hLl hG1 hG2
                obtain ⟨g0, g1, g2, g3, g4⟩ := box5 HG2.out
                obtain ⟨k0, k1, k2, k3, k4⟩ := box5 HK2.out
                obtain ⟨d0, d1, d2, d3, d4⟩ := box5 HD.out
                obtain ⟨y0, y1, y2, y3, y4⟩ := box5 XY10.out
                have ZZ : K4 wc.drew G K D (L + 1) (.int .i64 T) (.int .i64 B) (.int .i64 (X : Int)) (.slice P5 lp.length cp5) (.slice O5 lo.length co5) (.int .i64 t) (.int .i64 b) (.int .i64 Z2) (.slice P6 n6 cp6) (.slice O6 n7 co6) (.int .i64 T) (.int .i64 B) (.int .i64 (X : Int)) (.slice P9 lp.length k9) (.slice O9 lo.length j9) (.int .i64 yt) (.int .i64 yb) (.int .i64 yx) (.slice P np cp) (.slice O no co) := ⟨⟨g0, g1, g2, g3, g4⟩, ⟨k0, k1, k2, k3, k4⟩, ⟨d0, d1, d2, d3, d4⟩, y0, y1, y2, y3, y4⟩
                have BD : Below wc.heap.size wc wc.drew := (Below.refl _ _).drew
                have BW := Lib.hid (below_step (below_step BW9.out BC.out) BD)
                have N1 := CA.out wc.drew P9 k9 O9 j9 (below_step BC.out BD) (W1.out.on BD) (W2.out.on BD)
                have N2 := Lib.hid (fun (w' : World) (h : Below wc.drew.heap.size wc.drew w') => CL.out w' P9 k9 O9 j9 (below_step (below_step BC.out BD) h) ((W1.out.on BD).on h) ((W2.out.on BD).on h))
                have N3 := Lib.hid (fun (w' : World) (p' o' : Value) (h : Below wc.drew.heap.size wc.drew w') (v1 : VSl w' p' (PWh.less lp lyp)) (v2 : VSl w' o' (PWh.less lo lyo)) => CB.out w' p' o' (below_step (below_step BC.out BD) h) v1 v2)
                have e00 : ((0 : Int) == 0) = true := rfl
                clear CA CB CL BD W1 W2 HD HG2 HK2 XY10 BC BW9 g0 g1 g2 g3 g4 k0 k1 k2 k3 k4 d0 d1 d2 d3 d4 y0 y1 y2 y3 y4
                go_wp2_with fail
                go_region_held3 (fun w' => (w'.cell? ⟨G, 0, none⟩ = some (.int .i64 T) ∧ w'.cell? ⟨G, 1, none⟩ = some (.int .i64 B) ∧ w'.cell? ⟨G, 2, none⟩ = some (.int .i64 (X : Int)) ∧ w'.cell? ⟨G, 3, none⟩ = some (.slice P5 lp.length cp5) ∧ w'.cell? ⟨G, 4, none⟩ = some (.slice O5 lo.length co5)) ∧ (w'.cell? ⟨K, 0, none⟩ = some (.int .i64 t) ∧ w'.cell? ⟨K, 1, none⟩ = some (.int .i64 b) ∧ w'.cell? ⟨K, 2, none⟩ = some (.int .i64 Z2) ∧ w'.cell? ⟨K, 3, none⟩ = some (.slice P6 n6 cp6) ∧ w'.cell? ⟨K, 4, none⟩ = some (.slice O6 n7 co6)) ∧ (w'.cell? ⟨D, 0, none⟩ = some (.int .i64 T) ∧ w'.cell? ⟨D, 1, none⟩ = some (.int .i64 B) ∧ w'.cell? ⟨D, 2, none⟩ = some (.int .i64 (X : Int)) ∧ w'.cell? ⟨D, 3, none⟩ = some (.slice P9 lp.length k9) ∧ w'.cell? ⟨D, 4, none⟩ = some (.slice O9 lo.length j9)) ∧ w'.cell? ⟨L + 1, 0, none⟩ = some (.int .i64 yt) ∧ w'.cell? ⟨L + 1, 1, none⟩ = some (.int .i64 yb) ∧ w'.cell? ⟨L + 1, 2, none⟩ = some (.int .i64 yx) ∧ w'.cell? ⟨L + 1, 3, none⟩ = some (.slice P np cp) ∧ w'.cell? ⟨L + 1, 4, none⟩ = some (.slice O no co))
                  (first
                    | with_reducible exact ZZ
                    | with_reducible exact Z5
                    | with_reducible exact Z6
                    | with_reducible exact Z7
                    | with_reducible exact Z8)
                  (first
                    | go_at_call 16
                      with_reducible
                        refine N1.mono ?_
                      rintro _ w5 ⟨rfl, hb5⟩
                      have Z5 := K4.on ZZ hb5
                      have M2 := N2.out w5 hb5
                    | go_at_call 19
                      with_reducible
                        refine M2.mono ?_
                      rintro _ w6 ⟨p6, o6, rfl, v1, v2, hb6, -, -⟩
                      have Z6 := K4.on Z5 hb6
                      have M3 := N3.out w6 p6 o6 (below_step hb5 hb6) v1 v2
                    | go_at_call 16
                      with_reducible
                        refine M3.mono ?_
                      rintro _ w7 ⟨rfl, hb7⟩
                      have Z7 := K4.on Z6 hb7
                      have M4 := awake_any w7
                    | go_at_call 10
                      with_reducible
                        refine M4.mono ?_
                      rintro _ w8 ⟨rfl, hb8⟩
                      have Z8 := K4.on Z7 hb8)
                all_goals
                  have BZ := Lib.hid (below_step (below_step (below_step (below_step BW.out hb5) hb6) hb7) hb8)
                  clear ZZ Z5 Z6 Z7 Z8 N1 M2 M3 M4 hb5 hb6 hb7 hb8
                  go_wp2_with fail
                  go_ret
                  exact ⟨rfl, BZ.out⟩
end Go.Proofs.Ytpfpcnfodjmgcaa
