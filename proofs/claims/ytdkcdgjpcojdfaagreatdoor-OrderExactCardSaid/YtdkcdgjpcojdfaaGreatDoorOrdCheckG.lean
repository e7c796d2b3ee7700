/-
  What the landed order answers: the order, and the kinds, of what was read, or the error.
-/
import Derived.Test.YtdkcdgjpcojdfaaGreatDoorOC

set_option linter.unusedVariables false
namespace Go.Proofs.YtdkcdgjpcojdfaaGreatDoor
open Go.RowKit
open PCheck (Xp Bd)
open PTree (Tr Rl Ex Wf X0)

theorem ins_len : ∀ b ∈ POrd.inB, b.name.length ≤ maxLen := by
  have h : ∀ b ∈ POrd.inB, b.name.length ≤ 5 := by decide
  intro b hb
  have := h b hb
  unfold maxLen; omega
set_option maxHeartbeats 12800000 in
set_option maxRecDepth 100000 in
theorem kcheck_any {s : List UInt8} {rs : List Rl} (hFit : Fit s rs) {w : World} {n c rn rc : Nat} {A RA : Option Addr} (hR : SlX rlR w RA rn (rwX rs)) (hE : SlX xpR w A n (xpX rs)) (hc : n ≤ c) (ht : Tab2 w) :
    Calls Tryz.prog 13 #[.agg #[.slice RA rn rc, .slice A n c]] w (ChkAns (chkA rn (xpX rs) (rwX rs) (POrd.ans (nmR (rwX rs)) (POrd.hangs rs))) w) := by
  obtain ⟨F, hF⟩ : ∃ F, POrd.ans (nmR (rwX rs)) (POrd.hangs rs) = F := ⟨_, rfl⟩
  obtain ⟨l, at', er⟩ := F
  rw [hF]
  obtain ⟨Q, hQ⟩ : ∃ Q, ChkAns (chkA rn (xpX rs) (rwX rs) (l, at', er)) w = Q := ⟨_, rfl⟩
  rw [hQ]
  have hRl : (rwX rs).length = rn := hR.1
  have hn : n ≤ 900 := by
    have h1 := hFit.size
    have h2 : n = PTree.sizeOf rs := by rw [← xpX_len rs]; exact hE.1.symm
    omega
  have hrn : rn ≤ 900 := by
    have h1 := hFit.rules
    have h2 : rn = rs.length := by rw [← rwX_len rs]; exact hR.1.symm
    omega
  have HNM := Lib.hid hFit.names
  have hnl : (nmR (rwX rs)).length = rn := by rw [nmR_len]; exact hRl
  obtain ⟨w1, hw1, XB, b1⟩ : ∃ w1, w.alloc (.cells #[.slice RA rn rc, .slice A n c] 32) = w1 ∧ Box w1 w.heap.size [.slice RA rn rc, .slice A n c] ∧ Below w.heap.size w w1 := ⟨_, rfl, Box.new _ _ [.slice RA rn rc, .slice A n c], (Below.refl _ _).alloc (Nat.le_refl _) _⟩
  have ct := ksort_any (rc := rc) (c := c) hFit (hR.on b1) (hE.on b1) hc (ht.on b1)
  rw [hF] at ct
  have CT := Lib.hid ct
  have HXB := Lib.hid XB; have HR := Lib.hid (hR.on b1); have HE := Lib.hid (hE.on b1); have B1 := Lib.hid b1; have HW1 := Lib.hid hw1
  obtain ⟨x0, x1⟩ := px2 XB
  have hsx := XB.1
  by_cases her : er = 0
  · subst her
    obtain ⟨hg, hll, rfl⟩ := POrd.ans_ok hF
    rw [hnl] at hg hll
    obtain ⟨S, hS⟩ : ∃ S, chk (xpX rs) (rwX rs) l POrd.inB (List.replicate rn 0) = S := ⟨_, rfl⟩
    have FIN1 : Hid (∀ (ks : List Int) (X : Option Addr) (cx K : Nat) (w' : World), S = (ks, 0, 0) → ks.length = rn → SlX intR w' X rn (plI l) → (X = none → cx = 0) → rn ≤ cx → SlX intR w' (some ⟨K, 0, none⟩) rn ks → Below w.heap.size w w' → Q (.returned (.tuple #[.slice X rn cx, .slice (some ⟨K, 0, none⟩) rn rn, .int .i64 0, .int .i64 0])) w') := Lib.hid (fun ks X cx K w' hs hk h1 h2 h4 h3 a => by
      rw [← hQ]
      unfold ChkAns chkA chkR
      simp only []
      rw [hS, hs]
      exact ⟨X, cx, some ⟨K, 0, none⟩, rn, by rw [hll, hk]; rfl, by rw [hll]; exact h1, by rw [hk]; exact h3, h2, by rw [hll]; exact h4, (fun e => by cases e), by rw [hk]; exact Nat.le_refl _, a⟩)
    have FIN2 : Hid (∀ (p e : Nat) (w' : World), S = ([], p, e) → e ≠ 0 → Below w.heap.size w w' → Q (.returned (.tuple #[.slice none 0 0, .slice none 0 0, .int .i64 (p : Nat), .int .i64 (e : Nat)])) w') := Lib.hid (fun p e w' hs he a => by
      rw [← hQ]
      obtain ⟨e, rfl⟩ : ∃ e', e = e' + 1 := ⟨e - 1, by omega⟩
      unfold ChkAns chkA chkR
      simp only []
      rw [hS, hs]
      exact ⟨none, 0, none, 0, rfl, slr_nil _ _ _, slr_nil _ _ _, fun _ => rfl, Nat.le_refl _, fun _ => rfl, Nat.le_refl _, a⟩)
    have HG := Lib.hid hg; have HLL := Lib.hid hll; have HS := Lib.hid hS; have HRL := Lib.hid hRl
    clear hQ hF hR hE hFit ht XB b1 hw1 ct hg hll hS hRl hnl
    go_enter Tryz.func13, Tryz.ntmps13
    go_upto_region 1 with fail
    rw [HW1.out]
    clear HW1
    go_wp2_with (go_at_call 11; refine CT.out.mono ?_)
    intro e2 w2 h2
    obtain ⟨LA, lc, rfl, sl, hL0, b2⟩ := h2
    simp only [] at sl ⊢
    rw [HLL.out] at sl ⊢
    obtain ⟨hL0, hlc⟩ := hL0
    have hlc : rn ≤ lc := by have := hlc; simp only [] at this; rw [HLL.out] at this; exact this
    have HSL := Lib.hid sl; have HL0 := Lib.hid hL0; have HLC := Lib.hid hlc
    have B2 := Lib.hid (below_step B1.out b2)
    have HXB2 := Lib.hid (HXB.out.on b2); have HR2 := Lib.hid (HR.out.on b2); have HE2 := Lib.hid (HE.out.on b2)
    have hmk := make_rowK rn (by omega) w2
    obtain ⟨w3, hw3, U3, b3⟩ : ∃ w3, w2.alloc (.cells (madeCells #[.int .i64 0] rn) 3) = w3 ∧ RwK w3 w2.heap.size rn (List.replicate rn 0) ∧ Below w2.heap.size w2 w3 := ⟨_, rfl, made_rwK w2 rn, (Below.refl _ _).alloc (Nat.le_refl _) _⟩
    rw [hw3] at hmk
    have hs3 : w2.heap.size < w3.heap.size := by rw [← hw3]; simp
    obtain ⟨x0, x1⟩ := px2 HXB2.out
    have hsx := HXB2.out.1
    have CI := Lib.hid (kinputs_own w3)
    have HU3 := Lib.hid U3; have HB3 := Lib.hid b3; have HS3 := Lib.hid hs3
    clear hL0 hlc sl b2 HXB HR HE B1 CT hw3 U3 b3 hs3
    go_upto_region 5 with fail
    clear hmk x0 x1 hsx
    go_wp2_with (go_at_call 16; refine CI.out.mono ?_)
    intro e4 w4 h4
    obtain ⟨v4, rfl, ho4, b4⟩ := h4
    have HO4 := Lib.hid ho4
    have HU4 := Lib.hid (rwk_keep HU3.out b4 HS3.out)
    have B4 := Lib.hid (HB3.out.trans (b4.mono HB3.out.size))
    have S4 := Lib.hid b4.size
    clear ho4 b4 CI HU3 HB3
    go_wp2_with fail
    go_loopw [10, 33] (fun v x wx => ∃ (q : Nat) (bd : List Bd) (ks : List Int), x = .int .i64 q ∧ q ≤ rn ∧ Hid (bd.length = 5 + q ∧ ∀ b ∈ bd, b.name.length ≤ maxLen) ∧ Hid (wx.ownsRow w3.heap.size 49 bdR.k v bd.length (bdR.cells bd)) ∧ Hid (RwK wx w2.heap.size rn ks) ∧ Hid (chk (xpX rs) (rwX rs) (l.drop q) bd ks = S) ∧ Hid (Below w2.heap.size w2 wx) ∧ Hid (w3.heap.size ≤ wx.heap.size)) (fun _ x _ => rn - (intOf x).toNat)
    case atStart => exact ⟨0, POrd.inB, List.replicate rn 0, rfl, Nat.zero_le _, Lib.hid ⟨rfl, ins_len⟩, HO4, HU4, HS, B4, S4⟩
    case round =>
      clear HO4 HU4 HS B4 S4
      obtain ⟨q, bd, ks, rfl, hq, J1, J2, J3, J4, J5, J6⟩ := hrel
      by_cases hqr : q < rn
      · have gq : (q : Int) < (rn : Int) := by omega
        obtain ⟨lb, lo, z, rfl, hz, cz⟩ := int_at (HSL.out.on J5.out) hqr
        obtain ⟨i, hi⟩ : ∃ i, l[q]? = some i := ⟨_, List.getElem?_eq_getElem (by rw [HLL.out]; exact hqr)⟩
        have hzi : z = ((i : Nat) : Int) := by
          unfold plI at hz
          rw [List.getElem?_map, hi] at hz
          exact (Option.some.inj hz).symm
        subst hzi
        have hin : i < rn := HG.out.lt i (List.mem_of_getElem? hi)
        have gi : (i : Int) < (rn : Int) := by omega
        obtain ⟨⟨kd, nm, root⟩, hx⟩ : ∃ x, (rwX rs)[i]? = some x := ⟨_, List.getElem?_eq_getElem (by rw [HRL.out]; exact hin)⟩
        obtain ⟨VA, vc, rfl, hV0, -, sv⟩ := slr_of_own J2.out rfl
        have RW := HR2.out.on J5.out
        obtain ⟨rb, ro, rfl, -⟩ := RW.at hin
        obtain ⟨c0, c1, c2⟩ := rl_cell RW hin hx
        have c0 : wr.cell? ⟨rb, ro + i * 3, none⟩ = some (.string ⟨kd.toArray⟩) := c0
        have c1 : wr.cell? ⟨rb, ro + i * 3 + 1, none⟩ = some (.string ⟨nm.toArray⟩) := c1
        have c2 : wr.cell? ⟨rb, ro + i * 3 + 2, none⟩ = some (.int .i64 root) := c2
        obtain ⟨x0, x1⟩ := px2 (HXB2.out.on J5.out)
        have hsx := World.block_lt_of_cell? wr _ x0; have hsz := World.block_lt_of_cell? wr _ cz; have hsc := World.block_lt_of_cell? wr _ c0
        obtain ⟨w9, hw9, SB, b9⟩ : ∃ w9, wr.alloc (.cells #[.string { data := #[] }, .string { data := #[] }, .int .i64 0] 60) = w9 ∧ Box w9 wr.heap.size [.string { data := #[] }, .string { data := #[] }, .int .i64 0] ∧ Below wr.heap.size wr w9 := ⟨_, rfl, Box.new _ _ [.string { data := #[] }, .string { data := #[] }, .int .i64 0], (Below.refl _ _).alloc (Nat.le_refl _) _⟩
        obtain ⟨w10, hw10, X10, ON10⟩ := st3x SB (.string ⟨kd.toArray⟩) (.string ⟨nm.toArray⟩) (.int .i64 root)
        have b10 : Below wr.heap.size wr w10 := ON10.below (Nat.le_refl _) b9
        obtain ⟨s0, s1, s2⟩ := bx3 SB
        obtain ⟨m0, m1, m2⟩ := bx3f SB
        have hs9 := SB.1
        obtain ⟨⟨k, p, e⟩, hk⟩ : ∃ F, PCheck.kind (xpX rs) root bd = F := ⟨_, rfl⟩
        have ck := kKind_any (TA := some ⟨rb, ro, none⟩) (tn := rn) (tc := rc) (c := c) (lc := vc) (r := root) ((HE2.out.on J5.out).on b10) hc (sv.on b10) (by omega) (by have := J1.out.1; omega) HNM.out.2 J1.out.2
        rw [hk] at ck
        have CK := Lib.hid ck
        obtain ⟨k1, k2, k3⟩ := chk_step (l := l.drop (q + 1)) (ks := ks) hx hk
        rw [← drop_next hi, J4.out] at k1 k2 k3
        have K1 := Lib.hid k1; have K2 := Lib.hid k2; have K3 := Lib.hid k3
        have hnx : nm.length ≤ maxLen := HNM.out.1 nm (by
          have h1 : (nmR (rwX rs))[i]? = some nm := by unfold nmR; rw [List.getElem?_map, hx]; rfl
          exact List.mem_of_getElem? h1)
        have HNX := Lib.hid hnx
        obtain ⟨bl, hbl⟩ : ∃ bl, bd.length = bl := ⟨_, rfl⟩
        rw [hbl] at J1 J2 CK
        simp only [hbl]
        have HBL := Lib.hid hbl
        have J2 := Lib.hid (own_kept J2.out b10); have J3 := Lib.hid (J3.out.on b10); have J5 := Lib.hid (J5.out.trans (b10.mono J5.out.size)); have hKw : wr.heap.size ≠ w2.heap.size := by (have := J6.out; have := HS3.out; omega)
        have J6 := Lib.hid (Nat.le_trans J6.out b10.size)
        obtain ⟨u0, u1, u2⟩ := bx3 X10
        have hs10 := X10.1
        have y0 := (b10.cell (World.block_lt_of_cell? wr _ x0)).trans x0
        have y1 := (b10.cell (World.block_lt_of_cell? wr _ x1)).trans x1
        have hsy := World.block_lt_of_cell? w10 _ y0
        have HX10 := Lib.hid X10; have HW10 := Lib.hid hw10; have HKW := Lib.hid hKw
        clear hz hi hx RW hk ck k1 k2 k3 sv hV0 J4 hbl X10 ON10 SB b9 b10 hw10 hnx hKw
        go_upto_region 10 with fail
        rw [HW10.out]
        clear HW10 hw9 s0 s1 s2 m0 m1 m2 hs9 c0 c1 c2 hsc cz hsz x0 x1 hsx
        go_wp2_with (go_at_call 37; refine CK.out.mono ?_)
        intro e5 w5 h5
        obtain ⟨rfl, b5⟩ := h5
        have J2 := Lib.hid (own_kept J2.out b5); have J3 := Lib.hid (J3.out.on b5); have J5 := Lib.hid (J5.out.trans (b5.mono J5.out.size)); have J6 := Lib.hid (Nat.le_trans J6.out b5.size)
        have HX5 := Lib.hid (HX10.out.on b5)
        clear b5 CK u0 u1 u2 hs10 y0 y1 hsy HX10
        obtain ⟨u0, u1, u2⟩ := bx3 HX5.out
        have hs5 := HX5.out.1
        by_cases he : e = 0
        · subst he
          by_cases hkl : kd = letS ∨ k = 1
          · have HST := Lib.hid (K3.out rfl hkl)
            obtain ⟨cu, fu⟩ := J3.out.2 i hin
            have hsk := World.block_lt_of_cell? w5 _ cu
            obtain ⟨w6, hw6, U6, b6⟩ : ∃ w6, w5.setCell ⟨w2.heap.size, i, none⟩ (.int .i64 k) = w6 ∧ RwK w6 w2.heap.size rn (ks.set i k) ∧ Below w2.heap.size w2 w6 := ⟨_, rfl, J3.out.set hin k, J5.out.setCell (Nat.le_refl _) _⟩
            have O6 : w6.ownsRow w3.heap.size 49 bdR.k (.slice VA bl vc) bl (bdR.cells bd) := by rw [← hw6]; exact own_store J2.out HS3.out _
            have s6 : w3.heap.size ≤ w6.heap.size := by rw [← hw6]; simp only [World.size_setCell]; exact J6.out
            have X6 : Box w6 wr.heap.size [.string ⟨kd.toArray⟩, .string ⟨nm.toArray⟩, .int .i64 root] := by rw [← hw6]; exact HX5.out.far (by simp only [ne_eq]; have := HKW.out; omega) _
            obtain ⟨y0, y1, y2⟩ := bx3 X6
            have hsy := X6.1
            have HW6 := Lib.hid hw6; have HU6 := Lib.hid U6; have HB6 := Lib.hid b6; have HO6 := Lib.hid O6; have HS6 := Lib.hid s6
            have hbl9 : bl + 1 ≤ 100000 := by have := J1.out.1; omega
            clear U6 b6 O6 s6 hw6 X6 J2 J3 J5 J6 K1 K2 K3
            have gcase : kd = letS ∨ (kd ≠ letS ∧ k = 1) := by
              by_cases h : kd = letS
              · exact .inl h
              · exact .inr ⟨h, hkl.resolve_left h⟩
            clear hkl
            rcases gcase with hkd | ⟨hkd, hk1⟩
            all_goals
              first
              | (simp only [letS] at hkd; subst hkd; go_upto_region 15 with fail)
              | (have gkd : (kd == [108, 101, 116]) = false := beq_eq_false_iff_ne.2 hkd
                 clear hkd
                 subst hk1
                 go_upto_region 15 with fail)
              go_upto_region 16 with fail
              rw [HW6.out]
              clear HW6 cu fu hsk u0 u1 u2 hs5
              go_wp2_with (at_builtin; refine append_own1 bd_recTyK rfl _ _ rfl w3.heap.size _ bl bd (⟨nm, _⟩ : Bd) (by rfl) HO6.out (by rfl) hbl9 HS6.out ?_)
              intro v7 w7 ho7 hb7 hk7
              have hbl7 := HBL.out
              have HO7 := Lib.hid ho7
              have HU7 := Lib.hid (rwk_keep HU6.out hb7 HS3.out)
              have HB7 := Lib.hid (HB6.out.trans (hb7.mono (Nat.le_of_lt HS3.out)))
              have HS7 := Lib.hid (Nat.le_trans HS6.out hb7.size)
              clear ho7 hb7 hk7 HO6 HU6 HB6 HS6 y0 y1 y2 hsy
              have HL7 : Hid (∀ k : Int, (bd ++ [(⟨nm, k⟩ : Bd)]).length = bl + 1) := Lib.hid (fun k => by rw [List.length_append, hbl7]; rfl)
              clear hbl7
              go_wp2_with fail
              exact ⟨⟨q + 1, _, _, rfl, by omega, Lib.hid ⟨by rw [HL7.out]; have := J1.out.1; omega, fun b hb => by
                rcases List.mem_append.1 hb with hb | hb
                · exact J1.out.2 b hb
                · rw [List.mem_singleton.1 hb]; exact HNX.out⟩, Lib.hid (by rw [HL7.out]; exact HO7.out), HU7, Lib.hid HST.out.symm, HB7, HS7⟩, by simp [intOf]; omega⟩
          · have hkd : kd ≠ letS := fun h => hkl (.inl h)
            have hk1 : k ≠ 1 := fun h => hkl (.inr h)
            have HST := Lib.hid (K2.out rfl hkd hk1)
            have gkd : (kd == [108, 101, 116]) = false := beq_eq_false_iff_ne.2 hkd
            have gk1 : (k == 1) = false := beq_eq_false_iff_ne.2 hk1
            have BW := Lib.hid (B2.out.trans (J5.out.mono B2.out.size))
            clear hkd hk1 hkl K1 K2 K3 J2 J3 J5 J6
            go_wp2_with fail
            refine bodyPost_ret (by simp [results, Tryz.results13, go_sem]; try rfl) rfl ?_
            exact FIN2.out _ 7 _ HST.out (by decide) BW.out
        · have HST := Lib.hid (K1.out he)
          have ge : ((e : Int) == 0) = false := by rw [beq_eq_false_iff_ne]; omega
          have BW := Lib.hid (B2.out.trans (J5.out.mono B2.out.size))
          have HE0 := Lib.hid he
          clear K1 K2 K3 J2 J3 J5 J6 he
          go_wp2_with fail
          refine bodyPost_ret (by simp [results, Tryz.results13, go_sem]; try rfl) rfl ?_
          exact FIN2.out _ e _ HST.out HE0.out BW.out
      · obtain rfl : q = rn := by omega
        have HST : Hid (S = (ks, 0, 0)) := Lib.hid (by
          rw [← J4.out, List.drop_of_length_le (by rw [HLL.out]; exact Nat.le_refl _)]
          rfl)
        have gq : ¬ (q : Int) < (q : Int) := by omega
        have BW := Lib.hid (B2.out.trans (J5.out.mono B2.out.size))
        have HSLr := Lib.hid (HSL.out.on J5.out)
        clear hqr J4 J2
        go_wp2_with fail
        refine bodyPost_ret (by simp [results, Tryz.results13, go_sem]; try rfl) rfl ?_
        exact FIN1.out ks LA lc _ _ HST.out J3.out.1 HSLr.out HL0.out HLC.out (rwk_slx J3.out) BW.out
  · have FIN : Hid (∀ w' : World, Below w.heap.size w w' → Q (.returned (.tuple #[.slice none 0 0, .slice none 0 0, .int .i64 (at' : Nat), .int .i64 (er : Nat)])) w') := Lib.hid (fun w' a => by
      rw [← hQ]
      obtain ⟨e, rfl⟩ : ∃ e', er = e' + 1 := ⟨er - 1, by omega⟩
      exact ⟨none, 0, none, 0, rfl, slr_nil _ _ _, slr_nil _ _ _, fun _ => rfl, Nat.le_refl _, fun _ => rfl, Nat.le_refl _, a⟩)
    have ger : ((er : Int) == 0) = false := by rw [beq_eq_false_iff_ne]; omega
    clear hQ hF hR hE hFit ht XB b1 hw1 ct hRl hnl
    go_enter Tryz.func13, Tryz.ntmps13
    go_upto_region 1 with fail
    rw [HW1.out]
    clear HW1
    go_wp2_with (go_at_call 11; refine CT.out.mono ?_)
    intro e2 w2 h2
    obtain ⟨LA, lc, rfl, sl, hL0, b2⟩ := h2
    have B2 := Lib.hid (below_step B1.out b2)
    clear b2 sl hL0 CT
    go_wp2_with fail
    refine bodyPost_ret (by simp [results, Tryz.results13, go_sem]; try rfl) rfl ?_
    exact FIN.out _ B2.out
end Go.Proofs.YtdkcdgjpcojdfaaGreatDoor
