/-
  Somebody is hired: what the landed master answers.
-/
import Derived.Test.YtbnnmakmgleikaaMaStaff
import Derived.Test.YtbnnmakmgleikaaMaWithP
import Derived.Test.YtbnnmakmgleikaaMaWithR
set_option linter.unusedVariables false
set_option linter.unusedSimpArgs false
namespace Go.Proofs.Ytbnnmakmgleikaa
open Go.RowKit

/-- A master that is told, with an error's number beside it. -/
def MaB (M : List PMa.Per) (z : Int) (w : World) (e : Ending) (w' : World) : Prop := ∃ A n c, e = .returned (.tuple #[.agg #[.slice A n c], .int .i64 z]) ∧ MaI w' A n c M ∧ Below w.heap.size w w'
theorem b1m {w : World} {H : Nat} {a : Value} (h : Box w H [a]) : w.cell? ⟨H, 0, none⟩ = some a := h.c 0 rfl
theorem b1f {w : World} {H : Nat} {a : Value} (h : Box w H [a]) : w.frozen? ⟨H, 0, none⟩ = false := h.f 0 rfl
theorem set1 {w : World} {H : Nat} {a : Value} (h : Box w H [a]) (a' : Value) : ∃ w', w.setCell ⟨H, 0, none⟩ a' = w' ∧ Box w' H [a'] ∧ Only H w w' := ⟨_, rfl, h.set 0 (by simp) a', (Only.refl H w).set 0 a'⟩
theorem place_le (M : List PMa.Per) (id : Int) : PMa.place M id ≤ M.length := PMa.lead_le _ M
/-- The master with somebody in place of others, whose rows are the cells told. -/
theorem maI_with {w w' : World} {n i j g cap N : Nat} {M : List PMa.Per} {rs : List Raw} (hO : RawsOk w rs M) (hn : M.length = n) (hb : Below w.heap.size w w') (hi : i ≤ n) (hij : i ≤ j) {r : Raw} {p : PMa.Per} (hr : RawOk w' r p)
    (hS : SlX rawR w' (some ⟨g, 0, none⟩) N (PMa.with_ rs i j r)) (hc : N ≤ cap) (hm : cap ≤ maxLen) : MaI w' (some ⟨g, 0, none⟩) N cap (PMa.with_ M i j p) :=
  ⟨⟨_, hS, (hO.on hb).with_ (by omega) hij hr⟩, (fun h => by cases h), hc, hm⟩
/-- The three blocks that are laid first. -/
theorem ma_enter (w : World) (a : Value) (vs : List Value) (t t2 : TypeId) : ∃ w1, ((w.alloc (.cells #[a] t)).alloc (.cells vs.toArray t2)).alloc (.cells #[.slice none 0 0] t) = w1 ∧ Box w1 w.heap.size [a] ∧ Box w1 (w.heap.size + 1) vs ∧ Box w1 (w.heap.size + 2) [.slice none 0 0] ∧ Below w.heap.size w w1 := by
  refine ⟨_, rfl, ((Box.new w t [a]).alloc _).alloc _, (Box.new' _ t2 vs (by simp)).alloc _, Box.new' _ t [.slice none 0 0] (by simp), (((Below.refl _ _).alloc (Nat.le_refl _) _).alloc (by simp) _).alloc (by simp; omega) _⟩
set_option maxRecDepth 100000 in
set_option maxHeartbeats 12800000 in
theorem khire_any {w : World} {A : Option Addr} {n c : Nat} {M : List PMa.Per} (hM : MaI w A n c M) (hF : PMa.Fine M) (hn : n ≤ 80000) (id : Int) (r : PMa.Rcd) :
    Calls Try.prog 15 #[.agg #[.slice A n c], .int .i64 id, .agg #[.int .i64 r.frm, .int .i64 r.ctr, .int .i64 r.base, .int .i64 r.bonus, .int .i64 r.hours, .int .i64 r.days, .bool r.lead]] w (MaB (PMa.hire M id r).1 (PMa.hire M id r).2 w) := by
  obtain ⟨Q, hQ⟩ : ∃ Q, MaB (PMa.hire M id r).1 (PMa.hire M id r).2 w = Q := ⟨_, rfl⟩
  rw [hQ]
  have F : Hid (∀ M' z A n c w', PMa.hire M id r = (M', z) → MaI w' A n c M' → Below w.heap.size w w' → Q (.returned (.tuple #[.agg #[.slice A n c], .int .i64 z])) w') := Lib.hid (fun M' z A n c w' h hi hb => by
    rw [← hQ, h]; exact ⟨A, n, c, rfl, hi, hb⟩)
  obtain ⟨w1, hw1, XB, YB, RB, b1⟩ := ma_enter w (.slice A n c) [.int .i64 r.frm, .int .i64 r.ctr, .int .i64 r.base, .int .i64 r.bonus, .int .i64 r.hours, .int .i64 r.days, .bool r.lead] 26 47
  have y0 := b1m XB
  have hsx := XB.1
  have hMn : M.length = n := hM.s.len
  have CP := kplace_any (c := c) (hM.on b1).s hF (by omega) id
  have hple := place_le M id
  obtain ⟨pl, hpl⟩ : ∃ p, PMa.place M id = p := ⟨_, rfl⟩
  obtain ⟨th, hth⟩ : ∃ p, PMa.there M id = p := ⟨_, rfl⟩
  obtain ⟨i1, hi1⟩ : ∃ p, PMa.isId id = p := ⟨_, rfl⟩
  obtain ⟨i2, hi2⟩ : ∃ p, PMa.isRcd r = p := ⟨_, rfl⟩
  rw [hpl, hth] at CP
  rw [hpl] at hple
  have CP := Lib.hid CP
  have HH : Hid (PMa.hire M id r = if !i1 || !i2 then (M, 1) else if th then (M, 6) else if 50 ≤ n then (M, 9) else (PMa.with_ M pl pl ⟨id, r.frm, 0, [r], []⟩, 0)) := Lib.hid (by
    unfold PMa.hire
    rw [hpl, hth, hi1, hi2, hMn])
  have CI := Lib.hid (fun wz => (by have h := isid_any id wz; rw [hi1] at h; exact h : Calls Try.prog 25 #[.int .i64 id] wz (SameM (.bool i1) wz)))
  have CR := Lib.hid (fun wz => (by have h := isright_any r wz; rw [hi2] at h; exact h : Calls Try.prog 26 #[.agg #[.int .i64 r.frm, .int .i64 r.ctr, .int .i64 r.base, .int .i64 r.bonus, .int .i64 r.hours, .int .i64 r.days, .bool r.lead]] wz (FlagM i2 wz)))
  have HM := Lib.hid hM; have HX := Lib.hid XB; have HY := Lib.hid YB; have HR := Lib.hid RB; have B1 := Lib.hid b1; have HMN := Lib.hid hMn; have HW1 := Lib.hid hw1
  have hbase : w.heap.size ≤ w.heap.size + 2 := by omega
  -- the ends with an error
  have ERR : Hid (∀ z w2, PMa.hire M id r = (M, z) → Below w1.heap.size w1 w2 → ∃ w3, w2.setCell ⟨w.heap.size + 2, 0, none⟩ (.slice A n c) = w3 ∧ Box w2 (w.heap.size + 2) [.slice none 0 0] ∧ Box w3 (w.heap.size + 2) [.slice A n c] ∧ Q (.returned (.tuple #[.agg #[.slice A n c], .int .i64 z])) w3) := Lib.hid (fun z w2 hz hb => by
    have R2 := HR.out.on hb
    obtain ⟨w3, hw3, R3, ON3⟩ := set1 R2 (.slice A n c)
    have B3 := ON3.below hbase (below_step B1.out hb)
    exact ⟨w3, hw3, R2, R3, F.out _ _ _ _ _ _ hz (HM.out.on B3) B3⟩)
  clear hQ hw1 XB YB RB b1 hM hpl hth hi1 hi2 hMn
  go_enter Try.func15, Try.ntmps15
  go_upto_region 1 with fail
  rw [HW1.out]
  clear HW1
  go_wp2_with (go_at_call 24; refine CP.out.mono ?_)
  intro e2 w2 h2
  obtain ⟨rfl, b2⟩ := h2
  have B2 := Lib.hid b2
  have C1 := Lib.hid (CI.out w2)
  have y0 := b1m (HX.out.on b2)
  have hsx := (HX.out.on b2).1
  obtain ⟨v0, v1, v2, v3, v4, v5, v6⟩ := box7 (HY.out.on b2)
  have hsy := (HY.out.on b2).1
  clear b2 CP CI
  cases i1 with
  | false =>
    obtain ⟨w3, hw3, R2, R3, q⟩ := ERR.out 1 w2 (by rw [HH.out]; simp) B2.out
    have r0 := b1m R2; have rf := b1f R2; have hsr := R2.1
    have k0 := b1m R3; have hk := R3.1
    have HW3 := Lib.hid hw3; have HQ3 := Lib.hid q
    clear hw3 R2 R3 q
    go_wp2_with (go_at_call 25; refine C1.out.mono ?_)
    rintro e3 w4 ⟨rfl, rfl⟩
    go_wp2_with fail
    rw [HW3.out]
    clear r0 rf hsr y0 hsx v0 v1 v2 v3 v4 v5 v6 hsy
    refine bodyPost_ret (by simp [results, Try.results15, go_sem, k0]; try rfl) rfl ?_
    exact HQ3.out
  | true =>
    go_wp2_with (go_at_call 25; refine C1.out.mono ?_)
    rintro e3 w4 ⟨rfl, rfl⟩
    have C2 := Lib.hid (CR.out w4)
    go_wp2_with (go_at_call 26; refine C2.out.mono ?_)
    intro e3 w5 h3
    obtain ⟨rfl, b5⟩ := h3
    have b15 := below_step B2.out b5
    have B5 := Lib.hid b15
    have y0 := b1m (HX.out.on b15)
    have hsx := (HX.out.on b15).1
    obtain ⟨v0, v1, v2, v3, v4, v5, v6⟩ := box7 (HY.out.on b15)
    have hsy := (HY.out.on b15).1
    clear b5 b15 C1 C2 CR
    cases i2 with
    | false =>
      obtain ⟨w3, hw3, R2, R3, q⟩ := ERR.out 1 w5 (by rw [HH.out]; simp) B5.out
      have r0 := b1m R2; have rf := b1f R2; have hsr := R2.1
      have k0 := b1m R3; have hk := R3.1
      have HW3 := Lib.hid hw3; have HQ3 := Lib.hid q
      clear hw3 R2 R3 q
      go_wp2_with fail
      rw [HW3.out]
      clear r0 rf hsr y0 hsx v0 v1 v2 v3 v4 v5 v6 hsy
      refine bodyPost_ret (by simp [results, Try.results15, go_sem, k0]; try rfl) rfl ?_
      exact HQ3.out
    | true =>
      cases th with
      | true =>
        obtain ⟨w3, hw3, R2, R3, q⟩ := ERR.out 6 w5 (by rw [HH.out]; simp) B5.out
        have r0 := b1m R2; have rf := b1f R2; have hsr := R2.1
        have k0 := b1m R3; have hk := R3.1
        have HW3 := Lib.hid hw3; have HQ3 := Lib.hid q
        clear hw3 R2 R3 q
        go_wp2_with fail
        rw [HW3.out]
        clear r0 rf hsr y0 hsx v0 v1 v2 v3 v4 v5 v6 hsy
        refine bodyPost_ret (by simp [results, Try.results15, go_sem, k0]; try rfl) rfl ?_
        exact HQ3.out
      | false =>
        by_cases h50 : 50 ≤ n
        · have g50 : (50 : Int) ≤ (n : Int) := by omega
          obtain ⟨w3, hw3, R2, R3, q⟩ := ERR.out 9 w5 (by rw [HH.out]; simp [h50]) B5.out
          have r0 := b1m R2; have rf := b1f R2; have hsr := R2.1
          have k0 := b1m R3; have hk := R3.1
          have HW3 := Lib.hid hw3; have HQ3 := Lib.hid q
          clear hw3 R2 R3 q
          go_wp2_with fail
          rw [HW3.out]
          clear r0 rf hsr y0 hsx v0 v1 v2 v3 v4 v5 v6 hsy
          refine bodyPost_ret (by simp [results, Try.results15, go_sem, k0]; try rfl) rfl ?_
          exact HQ3.out
        · have g50 : ¬ (50 : Int) ≤ (n : Int) := by omega
          have HE : Hid (PMa.hire M id r = (PMa.with_ M pl pl ⟨id, r.frm, 0, [r], []⟩, 0)) := Lib.hid (by rw [HH.out]; simp [h50])
          obtain ⟨rs, hS, hO⟩ := HM.out.s
          obtain ⟨w6, hw6, EB, b6⟩ : ∃ w6, w5.alloc (.cells #[.int .i64 r.frm, .int .i64 r.ctr, .int .i64 r.base, .int .i64 r.bonus, .int .i64 r.hours, .int .i64 r.days, .bool r.lead] 47) = w6 ∧ Box w6 w5.heap.size [.int .i64 r.frm, .int .i64 r.ctr, .int .i64 r.base, .int .i64 r.bonus, .int .i64 r.hours, .int .i64 r.days, .bool r.lead] ∧ Below w5.heap.size w5 w6 := ⟨_, rfl, Box.new _ _ [.int .i64 r.frm, .int .i64 r.ctr, .int .i64 r.base, .int .i64 r.bonus, .int .i64 r.hours, .int .i64 r.days, .bool r.lead], (Below.refl _ _).alloc (Nat.le_refl _) _⟩
          obtain ⟨w7, hw7, PB, b7⟩ : ∃ w7, w6.alloc (.cells #[.int .i64 0, .int .i64 0, .int .i64 0, .slice none 0 0, .slice none 0 0] 53) = w7 ∧ Box w7 w6.heap.size [.int .i64 0, .int .i64 0, .int .i64 0, .slice none 0 0, .slice none 0 0] ∧ Below w6.heap.size w6 w7 := ⟨_, rfl, Box.new _ _ [.int .i64 0, .int .i64 0, .int .i64 0, .slice none 0 0, .slice none 0 0], (Below.refl _ _).alloc (Nat.le_refl _) _⟩
          obtain ⟨w8, hw8, P8, ON8⟩ := set5 PB (.int .i64 id) (.int .i64 r.frm) (.int .i64 0) (.slice (some ⟨w5.heap.size, 0, none⟩) 1 1) (.slice none 0 0)
          obtain ⟨p0, p1, p2, p3, p4⟩ := box5 PB
          obtain ⟨pf0, pf1, pf2, pf3, pf4⟩ := box5f PB
          have hsp := PB.1
          have b68 : Below w6.heap.size w6 w8 := ON8.below (by omega) b7
          have b58 := below_step b6 b68
          have b18 := below_step B5.out b58
          have E8 := boxR (x := r) (EB.on b68)
          have X8 := HX.out.on b18
          have R8 := HR.out.on b18
          have BW := Lib.hid (below_step B1.out b18)
          have CW := Lib.hid (with_P (hS.on BW.out) HM.out.a0 HM.out.nc HM.out.cm (Nat.le_refl pl) (show pl ≤ n by have := HMN.out; omega) (by omega) ⟨id, r.frm, 0, some ⟨w5.heap.size, 0, none⟩, 1, 1, none, 0, 0⟩)
          have HO := Lib.hid hO; have HE8 := Lib.hid E8; have HR8 := Lib.hid R8; have HW8 := Lib.hid hw8; have HX8 := Lib.hid X8; have HP8 := Lib.hid P8
          clear hS hO EB PB P8 ON8 b7 b68 b58 b18 E8 X8 R8 b6 hw8
          go_upto_region 9 with fail
          (try rw [HW8.out])
          obtain ⟨q0, q1, q2, q3, q4⟩ := box5 HP8.out
          have hsq := HP8.out.1
          have y0 := b1m HX8.out
          have hsx := HX8.out.1
          clear HW8 hw7 hw6 p0 p1 p2 p3 p4 pf0 pf1 pf2 pf3 pf4 hsp v0 v1 v2 v3 v4 v5 v6 hsy
          go_wp2_with (go_at_call 27; refine CW.out.mono ?_)
          intro e9 w9 h9
          obtain ⟨g, cap, rfl, hg9, S9, hc9, hm9, b9⟩ := h9
          have hg2 : w.heap.size + 2 < g := by have := HR8.out.1; omega
          have hr2 : w.heap.size + 2 < w5.heap.size := (HR.out.on B5.out).1
          have R9 := HR8.out.on b9
          obtain ⟨w10, hw10, R10, ON10⟩ := set1 R9 (.slice (some ⟨g, 0, none⟩) (pl + 1 + (n - pl)) cap)
          have B10 := Lib.hid (ON10.below hbase (below_step BW.out b9))
          have FZ := Lib.hid (F.out _ _ _ _ _ w10 HE.out (maI_with HO.out HMN.out B10.out (by have := HMN.out; omega) (Nat.le_refl pl) (r := ⟨id, r.frm, 0, some ⟨w5.heap.size, 0, none⟩, 1, 1, none, 0, 0⟩) (p := ⟨id, r.frm, 0, [r], []⟩)
            ⟨rfl, rfl, rfl, SlX.only (HE8.out.on b9) ON10 (fun b o e hn => by cases e; omega), slr_nil _ _ _, (fun h => by cases h), (fun _ => rfl), Nat.le_refl _, Nat.le_refl _, (show (1 : Nat) ≤ maxLen by unfold maxLen; decide), Nat.zero_le _⟩
            (SlX.only S9 ON10 (fun b o e hn => by cases e; omega)) hc9 hm9) B10.out)
          have r0 := b1m R9; have rf := b1f R9; have hsr := R9.1
          have k0 := b1m R10; have hk := R10.1
          have HW10 := Lib.hid hw10
          clear b9 S9 R9 R10 ON10 hw10 CW q0 q1 q2 q3 q4 hsq y0 hsx
          go_wp2_with fail
          rw [HW10.out]
          clear r0 rf hsr
          refine bodyPost_ret (by simp [results, Try.results15, go_sem, k0]; try rfl) rfl ?_
          exact FZ.out
end Go.Proofs.Ytbnnmakmgleikaa
