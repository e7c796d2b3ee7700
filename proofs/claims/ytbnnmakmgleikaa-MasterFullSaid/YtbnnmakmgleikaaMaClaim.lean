/-
  An order is claimed: what the landed master answers.
-/
import Derived.Test.YtbnnmakmgleikaaMaLeave
import Derived.Test.YtbnnmakmgleikaaMaClaimIn
import Derived.Test.YtbnnmakmgleikaaMaWithO
set_option linter.unusedVariables false
set_option linter.unusedSimpArgs false
namespace Go.Proofs.Ytbnnmakmgleikaa
open Go.RowKit

theorem with_end {α : Type} (l : List α) (x : α) : PMa.with_ l l.length l.length x = l ++ [x] := by
  unfold PMa.with_
  rw [List.take_length, List.drop_length]
set_option maxRecDepth 100000 in
set_option maxHeartbeats 12800000 in
theorem kclaim_any {w : World} {A : Option Addr} {n c : Nat} {M : List PMa.Per} (hM : MaI w A n c M) (hF : PMa.Fine M) (hn : n ≤ 80000) (hL : ∀ p ∈ M, p.ords.length ≤ 80000) (id : Int) (o : PMa.Ord) :
    Calls Try.prog 17 #[.agg #[.slice A n c], .int .i64 id, .agg #[.int .i64 o.cred, .int .i64 o.prio, .int .i64 o.claim, .int .i64 o.bal]] w (MaB (PMa.claim M id o).1 (PMa.claim M id o).2 w) := by
  obtain ⟨Q, hQ⟩ : ∃ Q, MaB (PMa.claim M id o).1 (PMa.claim M id o).2 w = Q := ⟨_, rfl⟩
  rw [hQ]
  have F : Hid (∀ M' z A n c w', PMa.claim M id o = (M', z) → MaI w' A n c M' → Below w.heap.size w w' → Q (.returned (.tuple #[.agg #[.slice A n c], .int .i64 z])) w') := Lib.hid (fun M' z A n c w' h hi hb => by
    rw [← hQ, h]; exact ⟨A, n, c, rfl, hi, hb⟩)
  obtain ⟨w1, hw1, XB, YB, RB, b1⟩ := ma_enter w (.slice A n c) [.int .i64 o.cred, .int .i64 o.prio, .int .i64 o.claim, .int .i64 o.bal] 26 35
  have y0 := b1m XB
  have hsx := XB.1
  have hMn : M.length = n := hM.s.len
  have CP := kplace_any (c := c) (hM.on b1).s hF (by omega) id
  obtain ⟨pl, hpl⟩ : ∃ p, PMa.place M id = p := ⟨_, rfl⟩
  have HW1 := Lib.hid hw1; have HX := Lib.hid XB; have HY := Lib.hid YB; have HR := Lib.hid RB; have B1 := Lib.hid b1; have HMN := Lib.hid hMn; have HM := Lib.hid hM
  have hbase : w.heap.size ≤ w.heap.size + 2 := by omega
  have ERR : Hid (∀ z w2, PMa.claim M id o = (M, z) → Below w1.heap.size w1 w2 → ∃ w3, w2.setCell ⟨w.heap.size + 2, 0, none⟩ (.slice A n c) = w3 ∧ Box w2 (w.heap.size + 2) [.slice none 0 0] ∧ Box w3 (w.heap.size + 2) [.slice A n c] ∧ Q (.returned (.tuple #[.agg #[.slice A n c], .int .i64 z])) w3) := Lib.hid (fun z w2 hz hb => by
    have R2 := HR.out.on hb
    obtain ⟨w3, hw3, R3, ON3⟩ := set1 R2 (.slice A n c)
    have B3 := ON3.below hbase (below_step B1.out hb)
    exact ⟨w3, hw3, R2, R3, F.out _ _ _ _ _ _ hz (HM.out.on B3) B3⟩)
  cases ht : PMa.there M id with
  | false =>
    have HE : Hid (PMa.claim M id o = (M, 5)) := Lib.hid (by unfold PMa.claim; rw [ht]; rfl)
    rw [ht, hpl] at CP
    have CP := Lib.hid CP
    clear hQ hw1 XB YB RB b1 hM hpl ht hMn
    go_enter Try.func17, Try.ntmps17
    go_upto_region 1 with fail
    rw [HW1.out]
    clear HW1
    go_wp2_with (go_at_call 24; refine CP.out.mono ?_)
    intro e2 w2 h2
    obtain ⟨rfl, b2⟩ := h2
    have y0 := b1m (HX.out.on b2)
    have hsx := (HX.out.on b2).1
    obtain ⟨w3, hw3, R2, R3, q⟩ := ERR.out 5 w2 HE.out b2
    have r0 := b1m R2; have rf := b1f R2; have hsr := R2.1
    have k0 := b1m R3; have hk := R3.1
    have HW3 := Lib.hid hw3; have HQ3 := Lib.hid q
    clear b2 CP hw3 R2 R3 q
    go_wp2_with fail
    rw [HW3.out]
    clear r0 rf hsr y0 hsx
    refine bodyPost_ret (by simp [results, Try.results17, go_sem, k0]; try rfl) rfl ?_
    exact HQ3.out
  | true =>
    obtain ⟨p, hp, hid, hd⟩ := place_at ht
    obtain ⟨i1, hi1⟩ : ∃ p, PMa.isOrd o = p := ⟨_, rfl⟩
    obtain ⟨i2, hi2⟩ : ∃ q, (p.ords.any fun x => decide (x.cred = o.cred)) = q := ⟨_, rfl⟩
    have hpl8 : p.ords.length ≤ 80000 := hL p (List.mem_of_getElem? hp)
    have HH : Hid (PMa.claim M id o = if !i1 then (M, 1) else if i2 then (M, 6) else if 8 ≤ p.ords.length then (M, 9) else (PMa.with_ M pl (pl + 1) { p with ords := p.ords ++ [o] }, 0)) := Lib.hid (by
      unfold PMa.claim
      rw [ht, hd, hi1, hpl, hi2]; rfl)
    rw [ht, hpl] at CP
    rw [hpl] at hp
    have CP := Lib.hid CP
    have CI := Lib.hid (fun wz => (by have h := isord_any o wz; rw [hi1] at h; exact h : Calls Try.prog 29 #[.agg #[.int .i64 o.cred, .int .i64 o.prio, .int .i64 o.claim, .int .i64 o.bal]] wz (FlagM i1 wz)))
    obtain ⟨rs, hS, hO⟩ := hM.s
    have hpn : pl < n := by rw [← hMn]; exact (List.getElem?_eq_some_iff.1 hp).1
    obtain ⟨bA, oA, rfl, -⟩ := hS.at hpn
    obtain ⟨r, hr⟩ : ∃ r, rs[pl]? = some r := ⟨_, List.getElem?_eq_getElem (by rw [hS.1]; exact hpn)⟩
    have hok := hO.at_ pl r p hr hp
    have hrm : p.ords.length = r.m := hok.ords.1
    have HRM := Lib.hid hrm; have HM8 := Lib.hid hpl8; have HI2 := Lib.hid hi2
    have HSl := Lib.hid hS; have HRr := Lib.hid hr; have HOK := Lib.hid hok; have HO := Lib.hid hO; have HPN := Lib.hid hpn
    have gp : (pl : Int) < (n : Int) := by omega
    have gp0 : (0 : Int) ≤ (pl : Int) := by omega
    clear hQ hw1 XB YB RB b1 ht hpl hM hS hO hr hok hp hd hid hMn hi1 hi2 hrm hpn hpl8 hL
    go_enter Try.func17, Try.ntmps17
    go_upto_region 1 with fail
    rw [HW1.out]
    clear HW1
    go_wp2_with (go_at_call 24; refine CP.out.mono ?_)
    intro e2 w2 h2
    obtain ⟨rfl, b2⟩ := h2
    have B2 := Lib.hid b2
    have y0 := b1m (HX.out.on b2)
    have hsx := (HX.out.on b2).1
    have BB2 := Lib.hid (below_step B1.out b2)
    obtain ⟨l0, l1, l2, l3, l4⟩ := raw_cell (HSl.out.on BB2.out) HPN.out HRr.out
    have hsl := World.block_lt_of_cell? w2 _ l0
    obtain ⟨w4, hw4, P4, b24⟩ := raw_box w2 (.int .i64 r.id) (.int .i64 r.hired) (.int .i64 r.gone) (.slice r.A r.n r.c) (.slice r.B r.m r.d) 53
    have B4 := Lib.hid (below_step B2.out b24)
    have HW4 := Lib.hid hw4; have HP4 := Lib.hid P4
    clear b2 CP hw4 P4 b24
    go_upto_region 5 with fail
    rw [HW4.out]
    clear HW4 l0 l1 l2 l3 l4 hsl y0 hsx
    obtain ⟨v0, v1, v2, v3⟩ := box4 (HY.out.on B4.out)
    have hsy := (HY.out.on B4.out).1
    have C1 := Lib.hid (CI.out w4)
    clear CI
    go_wp2_with (go_at_call 29; refine C1.out.mono ?_)
    intro e5 w5 h5
    obtain ⟨rfl, b5⟩ := h5
    have B5 := Lib.hid (below_step B4.out b5)
    have HP5 := Lib.hid (HP4.out.on b5)
    have y0 := b1m (HX.out.on B5.out)
    have hsx := (HX.out.on B5.out).1
    have BB5 := Lib.hid (below_step B1.out B5.out)
    have HY5 := Lib.hid (HY.out.on B5.out)
    clear v0 v1 v2 v3 hsy C1 b5 HP4
    cases i1 with
    | false =>
      obtain ⟨w3, hw3, R2, R3, q⟩ := ERR.out 1 w5 (by rw [HH.out]; simp) B5.out
      have r0 := b1m R2; have rf := b1f R2; have hsr := R2.1
      have k0 := b1m R3; have hk := R3.1
      have HW3 := Lib.hid hw3; have HQ3 := Lib.hid q
      clear hw3 R2 R3 q
      go_wp2_with fail
      rw [HW3.out]
      clear r0 rf hsr y0 hsx
      refine bodyPost_ret (by simp [results, Try.results17, go_sem, k0]; try rfl) rfl ?_
      exact HQ3.out
    | true =>
      have CC := kcontains_cred (c := r.d) (HOK.out.on BB5.out).ords (by have := HM8.out; have := HRM.out; omega) HY5.out
      rw [HI2.out] at CC
      have CC := Lib.hid CC
      obtain ⟨z0, z1, z2, z3, z4⟩ := box5 HP5.out
      have hsz := HP5.out.1
      go_wp2_with (go_at_call 30; refine CC.out.mono ?_)
      intro e6 w6 h6
      obtain ⟨rfl, b6⟩ := h6
      have B6 := Lib.hid (below_step B5.out b6)
      have HP6 := Lib.hid (HP5.out.on b6)
      have y0 := b1m (HX.out.on B6.out)
      have hsx := (HX.out.on B6.out).1
      have BB6 := Lib.hid (below_step B1.out B6.out)
      have HY6 := Lib.hid (HY.out.on B6.out)
      clear z0 z1 z2 z3 z4 hsz CC b6 HP5 HY5
      cases i2 with
      | true =>
        obtain ⟨w3, hw3, R2, R3, q⟩ := ERR.out 6 w6 (by rw [HH.out]; simp) B6.out
        have r0 := b1m R2; have rf := b1f R2; have hsr := R2.1
        have k0 := b1m R3; have hk := R3.1
        have HW3 := Lib.hid hw3; have HQ3 := Lib.hid q
        clear hw3 R2 R3 q
        go_wp2_with fail
        rw [HW3.out]
        clear r0 rf hsr y0 hsx
        refine bodyPost_ret (by simp [results, Try.results17, go_sem, k0]; try rfl) rfl ?_
        exact HQ3.out
      | false =>
        obtain ⟨z0, z1, z2, z3, z4⟩ := box5 HP6.out
        have hsz := HP6.out.1
        by_cases h8 : 8 ≤ r.m
        · have g8 : (8 : Int) ≤ (r.m : Int) := by omega
          obtain ⟨w3, hw3, R2, R3, q⟩ := ERR.out 9 w6 (by rw [HH.out]; simp [HRM.out, h8]) B6.out
          have r0 := b1m R2; have rf := b1f R2; have hsr := R2.1
          have k0 := b1m R3; have hk := R3.1
          have HW3 := Lib.hid hw3; have HQ3 := Lib.hid q
          clear hw3 R2 R3 q
          go_wp2_with fail
          rw [HW3.out]
          clear r0 rf hsr y0 hsx z0 z1 z2 z3 z4 hsz
          refine bodyPost_ret (by simp [results, Try.results17, go_sem, k0]; try rfl) rfl ?_
          exact HQ3.out
        · have g8 : ¬ (8 : Int) ≤ (r.m : Int) := by omega
          have HE : Hid (PMa.claim M id o = (PMa.with_ M pl (pl + 1) { p with ords := p.ords ++ [o] }, 0)) := Lib.hid (by rw [HH.out]; simp [HRM.out, h8])
          have CO := Lib.hid (with_O (HOK.out.on BB6.out).ords HOK.out.b0 HOK.out.bd HOK.out.dm (Nat.le_refl r.m) (Nat.le_refl r.m) (by omega) o)
          obtain ⟨v0, v1, v2, v3⟩ := box4 HY6.out
          have hsy := HY6.out.1
          go_upto_region 11 with fail
          go_wp2_with (go_at_call 32; refine CO.out.mono ?_)
          intro e7 w7 h7
          rw [Nat.sub_self, Nat.add_zero] at h7
          obtain ⟨gO, capO, rfl, hgO, S7, hc7, hm7, b7⟩ := h7
          rw [show PMa.with_ p.ords r.m r.m o = p.ords ++ [o] by rw [← HRM.out]; exact with_end _ _] at S7
          have B7 := Lib.hid (below_step B6.out b7)
          have HP7 := Lib.hid (HP6.out.on b7)
          have h12 : w1.heap.size ≤ w2.heap.size := B2.out.size
          have h26 : w2.heap.size < w6.heap.size := HP6.out.1
          have hp1 : w.heap.size + 2 < w1.heap.size := HR.out.1
          obtain ⟨w8, hw8, P8, ON8⟩ : ∃ w', w7.setCell ⟨w2.heap.size, 4, none⟩ (.slice (some ⟨gO, 0, none⟩) (r.m + 1) capO) = w' ∧ Box w' w2.heap.size [.int .i64 r.id, .int .i64 r.hired, .int .i64 r.gone, .slice r.A r.n r.c, .slice (some ⟨gO, 0, none⟩) (r.m + 1) capO] ∧ Only w2.heap.size w7 w' := ⟨_, rfl, HP7.out.set 4 (by simp) _, (Only.refl _ w7).set 4 _⟩
          have B8 := Lib.hid (ON8.below h12 B7.out)
          have BB8 := Lib.hid (below_step B1.out B8.out)
          have S8 := Lib.hid (SlX.only S7 ON8 (fun b o e hn => by cases e; omega))
          have HX8 := Lib.hid (HX.out.on B8.out)
          have HR8 := Lib.hid (HR.out.on B8.out)
          obtain ⟨pf0, pf1, pf2, pf3, pf4⟩ := box5f HP7.out
          obtain ⟨p0, p1, p2, p3, p4⟩ := box5 HP7.out
          have hsp := HP7.out.1
          have CW := Lib.hid (with_P (HSl.out.on BB8.out) HM.out.a0 HM.out.nc HM.out.cm (Nat.le_succ pl) (by have := HPN.out; omega) (by omega) ⟨r.id, r.hired, r.gone, r.A, r.n, r.c, some ⟨gO, 0, none⟩, r.m + 1, capO⟩)
          have HW8 := Lib.hid hw8; have HP8 := Lib.hid P8
          clear z0 z1 z2 z3 z4 hsz v0 v1 v2 v3 hsy y0 hsx CO b7 S7 P8 ON8 hw8
          go_upto_region 12 with fail
          rw [HW8.out]
          clear HW8 p0 p1 p2 p3 p4 pf0 pf1 pf2 pf3 pf4 hsp
          obtain ⟨z0, z1, z2, z3, z4⟩ := box5 HP8.out
          have hsz := HP8.out.1
          have y0 := b1m HX8.out
          have hsx := HX8.out.1
          go_wp2_with (go_at_call 27; refine CW.out.mono ?_)
          intro e9 wa h9
          obtain ⟨g, cap, rfl, hg9, S9, hc9, hm9, b9⟩ := h9
          have hg2 : w.heap.size + 2 < g := by have := HR8.out.1; omega
          have hgo2 : w.heap.size + 2 < gO := by omega
          have Ra := HR8.out.on b9
          obtain ⟨wb, hwb, Rb, ONb⟩ := set1 Ra (.slice (some ⟨g, 0, none⟩) (pl + 1 + (n - (pl + 1))) cap)
          have Bb := Lib.hid (ONb.below hbase (below_step BB8.out b9))
          have FZ := Lib.hid (F.out _ _ _ _ _ wb HE.out (maI_with HO.out HMN.out Bb.out (by have := HPN.out; omega) (Nat.le_succ pl) (r := ⟨r.id, r.hired, r.gone, r.A, r.n, r.c, some ⟨gO, 0, none⟩, r.m + 1, capO⟩) (p := { p with ords := p.ords ++ [o] })
            ⟨(HOK.out.on Bb.out).id, (HOK.out.on Bb.out).hired, (HOK.out.on Bb.out).gone, (HOK.out.on Bb.out).recs, SlX.only (S8.out.on b9) ONb (fun b o e hn => by cases e; omega), HOK.out.a0, (fun h => by cases h), HOK.out.ac, hc7, HOK.out.cm, hm7⟩
            (SlX.only S9 ONb (fun b o e hn => by cases e; omega)) hc9 hm9) Bb.out)
          have r0 := b1m Ra; have rf := b1f Ra; have hsr := Ra.1
          have k0 := b1m Rb; have hk := Rb.1
          have HWb := Lib.hid hwb
          clear b9 S9 Ra Rb ONb hwb CW z0 z1 z2 z3 z4 hsz y0 hsx
          go_wp2_with fail
          rw [HWb.out]
          clear r0 rf hsr
          refine bodyPost_ret (by simp [results, Try.results17, go_sem, k0]; try rfl) rfl ?_
          exact FZ.out
end Go.Proofs.Ytbnnmakmgleikaa
