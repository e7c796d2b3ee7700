/-
  Somebody's record is changed: what the landed master answers. (The takes of the drawn region are laid by gen script genchange.py.)
-/
import Derived.Test.YtbnnmakmgleikaaMaLeave
import Derived.Test.YtbnnmakmgleikaaMaWithR
import Derived.Test.YtbnnmakmgleikaaOrdLate
import Derived.Deep.QuietTactic
set_option linter.unusedVariables false
set_option linter.unusedSimpArgs false
namespace Go.Proofs.Ytbnnmakmgleikaa
open Go.RowKit

theorem lead_more {α : Type} {f g : α → Bool} (h : ∀ x, f x = true → g x = true) : ∀ l : List α, PMa.lead f l ≤ PMa.lead g l
  | [] => Nat.le_refl _
  | x :: l => by
    unfold PMa.lead
    have := lead_more h l
    cases hf : f x with
    | true => rw [h x hf]; simpa using this
    | false => simp
theorem upTo_less (l : List PMa.Rcd) (t : Int) : PMa.upTo l (t - 1) ≤ PMa.upTo l t := lead_more (fun x h => by simp only [decide_eq_true_eq] at *; omega) l
/-- What the region reads stands in every world behind new blocks. -/
def Rd8 (X Y : Nat) (v a0 a1 a2 a3 a4 a5 a6 : Value) (w : World) : Prop := w.cell? ⟨X, 3, none⟩ = some v ∧ w.cell? ⟨Y, 0, none⟩ = some a0 ∧ w.cell? ⟨Y, 1, none⟩ = some a1 ∧ w.cell? ⟨Y, 2, none⟩ = some a2 ∧ w.cell? ⟨Y, 3, none⟩ = some a3 ∧ w.cell? ⟨Y, 4, none⟩ = some a4 ∧ w.cell? ⟨Y, 5, none⟩ = some a5 ∧ w.cell? ⟨Y, 6, none⟩ = some a6
theorem Rd8.of {X Y : Nat} {v a0 a1 a2 a3 a4 a5 a6 p q r s : Value} {w : World} (hX : Box w X [p, q, r, v, s]) (hY : Box w Y [a0, a1, a2, a3, a4, a5, a6]) : Rd8 X Y v a0 a1 a2 a3 a4 a5 a6 w := by
  obtain ⟨x0, x1, x2, x3, x4⟩ := box5 hX
  obtain ⟨y0, y1, y2, y3, y4, y5, y6⟩ := box7 hY
  exact ⟨x3, y0, y1, y2, y3, y4, y5, y6⟩
theorem Rd8.on {X Y : Nat} {v a0 a1 a2 a3 a4 a5 a6 : Value} {w w' : World} (h : Rd8 X Y v a0 a1 a2 a3 a4 a5 a6 w) (hb : Below w.heap.size w w') : Rd8 X Y v a0 a1 a2 a3 a4 a5 a6 w' := by
  obtain ⟨h0, h1, h2, h3, h4, h5, h6, h7⟩ := h
  have k := fun (p : Addr) (u : Value) (e : w.cell? p = some u) => ((hb.cell (World.block_lt_of_cell? w p e)).trans e : w'.cell? p = some u)
  exact ⟨k _ _ h0, k _ _ h1, k _ _ h2, k _ _ h3, k _ _ h4, k _ _ h5, k _ _ h6, k _ _ h7⟩
set_option maxRecDepth 100000 in
set_option maxHeartbeats 25600000 in
theorem kchange_any {w : World} {A : Option Addr} {n c : Nat} {M : List PMa.Per} (hM : MaI w A n c M) (hF : PMa.Fine M) (hn : n ≤ 80000) (hL : ∀ p ∈ M, p.recs.length ≤ 80000) (id : Int) (r : PMa.Rcd) :
    Calls Try.prog 18 #[.agg #[.slice A n c], .int .i64 id, .agg #[.int .i64 r.frm, .int .i64 r.ctr, .int .i64 r.base, .int .i64 r.bonus, .int .i64 r.hours, .int .i64 r.days, .bool r.lead]] w (MaB (PMa.change M id r).1 (PMa.change M id r).2 w) := by
  obtain ⟨Q, hQ⟩ : ∃ Q, MaB (PMa.change M id r).1 (PMa.change M id r).2 w = Q := ⟨_, rfl⟩
  rw [hQ]
  have F : Hid (∀ M' z A n c w', PMa.change M id r = (M', z) → MaI w' A n c M' → Below w.heap.size w w' → Q (.returned (.tuple #[.agg #[.slice A n c], .int .i64 z])) w') := Lib.hid (fun M' z A n c w' h hi hb => by
    rw [← hQ, h]; exact ⟨A, n, c, rfl, hi, hb⟩)
  obtain ⟨w1, hw1, XB, YB, RB, b1⟩ := ma_enter w (.slice A n c) [.int .i64 r.frm, .int .i64 r.ctr, .int .i64 r.base, .int .i64 r.bonus, .int .i64 r.hours, .int .i64 r.days, .bool r.lead] 26 47
  have y0 := b1m XB
  have hsx := XB.1
  have hMn : M.length = n := hM.s.len
  have CP := kplace_any (c := c) (hM.on b1).s hF (by omega) id
  obtain ⟨pl, hpl⟩ : ∃ p, PMa.place M id = p := ⟨_, rfl⟩
  obtain ⟨th, hth⟩ : ∃ p, PMa.there M id = p := ⟨_, rfl⟩
  obtain ⟨i1, hi1⟩ : ∃ p, PMa.isId id = p := ⟨_, rfl⟩
  obtain ⟨i2, hi2⟩ : ∃ p, PMa.isRcd r = p := ⟨_, rfl⟩
  rw [hpl, hth] at CP
  have CP := Lib.hid CP
  have HH : Hid (PMa.change M id r = if !i1 || !i2 then (M, 1) else if !th then (M, 5) else if r.frm < (M.getD pl default).hired then (M, 1) else (PMa.with_ M pl (pl + 1) { M.getD pl default with recs := PMa.with_ (M.getD pl default).recs (PMa.upTo (M.getD pl default).recs (r.frm - 1)) (PMa.upTo (M.getD pl default).recs r.frm) r }, 0)) := Lib.hid (by
    unfold PMa.change
    rw [hpl, hth, hi1, hi2])
  have CI := Lib.hid (fun wz => (by have h := isid_any id wz; rw [hi1] at h; exact h : Calls Try.prog 25 #[.int .i64 id] wz (SameM (.bool i1) wz)))
  have CR := Lib.hid (fun wz => (by have h := isright_any r wz; rw [hi2] at h; exact h : Calls Try.prog 26 #[.agg #[.int .i64 r.frm, .int .i64 r.ctr, .int .i64 r.base, .int .i64 r.bonus, .int .i64 r.hours, .int .i64 r.days, .bool r.lead]] wz (FlagM i2 wz)))
  have HM := Lib.hid hM; have HX := Lib.hid XB; have HY := Lib.hid YB; have HR := Lib.hid RB; have B1 := Lib.hid b1; have HMN := Lib.hid hMn; have HW1 := Lib.hid hw1; have HTH := Lib.hid hth; have HPL := Lib.hid hpl; have HI2 := Lib.hid hi2; have HLL := Lib.hid hL; have HF := Lib.hid hF
  have hbase : w.heap.size ≤ w.heap.size + 2 := by omega
  -- the ends with an error
  have ERR : Hid (∀ z w2, PMa.change M id r = (M, z) → Below w1.heap.size w1 w2 → ∃ w3, w2.setCell ⟨w.heap.size + 2, 0, none⟩ (.slice A n c) = w3 ∧ Box w2 (w.heap.size + 2) [.slice none 0 0] ∧ Box w3 (w.heap.size + 2) [.slice A n c] ∧ Q (.returned (.tuple #[.agg #[.slice A n c], .int .i64 z])) w3) := Lib.hid (fun z w2 hz hb => by
    have R2 := HR.out.on hb
    obtain ⟨w3, hw3, R3, ON3⟩ := set1 R2 (.slice A n c)
    have B3 := ON3.below hbase (below_step B1.out hb)
    exact ⟨w3, hw3, R2, R3, F.out _ _ _ _ _ _ hz (HM.out.on B3) B3⟩)
  clear hQ hw1 XB YB RB b1 hM hpl hth hi1 hi2 hMn hL hF
  go_enter Try.func18, Try.ntmps18
  go_upto_region 1 with fail
  rw [HW1.out]
  clear HW1
  go_wp2_with (go_at_call 24; refine CP.out.mono ?_)
  intro e2 w2 h2
  obtain ⟨rfl, b2⟩ := h2
  have B2 := Lib.hid b2
  have C1 := Lib.hid (CI.out w2)
  have y0 := b1m (HX.out.on b2)
  have hsx := (HX.out.on b2).1
  obtain ⟨v0, v1, v2, v3, v4, v5, v6⟩ := box7 (HY.out.on b2)
  have hsy := (HY.out.on b2).1
  clear b2 CP CI
  cases i1 with
  | false =>
    obtain ⟨w3, hw3, R2, R3, q⟩ := ERR.out 1 w2 (by rw [HH.out]; simp) B2.out
    have r0 := b1m R2; have rf := b1f R2; have hsr := R2.1
    have k0 := b1m R3; have hk := R3.1
    have HW3 := Lib.hid hw3; have HQ3 := Lib.hid q
    clear hw3 R2 R3 q
    go_wp2_with (go_at_call 25; refine C1.out.mono ?_)
    rintro e3 w4 ⟨rfl, rfl⟩
    go_wp2_with fail
    rw [HW3.out]
    clear r0 rf hsr y0 hsx v0 v1 v2 v3 v4 v5 v6 hsy
    refine bodyPost_ret (by simp [results, Try.results18, go_sem, k0]; try rfl) rfl ?_
    exact HQ3.out
  | true =>
    go_wp2_with (go_at_call 25; refine C1.out.mono ?_)
    rintro e3 w4 ⟨rfl, rfl⟩
    have C2 := Lib.hid (CR.out w4)
    go_wp2_with (go_at_call 26; refine C2.out.mono ?_)
    intro e3 w5 h3
    obtain ⟨rfl, b5⟩ := h3
    have b15 := below_step B2.out b5
    have B5 := Lib.hid b15
    have y0 := b1m (HX.out.on b15)
    have hsx := (HX.out.on b15).1
    obtain ⟨v0, v1, v2, v3, v4, v5, v6⟩ := box7 (HY.out.on b15)
    have hsy := (HY.out.on b15).1
    clear b5 b15 C1 C2 CR
    cases i2 with
    | false =>
      obtain ⟨w3, hw3, R2, R3, q⟩ := ERR.out 1 w5 (by rw [HH.out]; simp) B5.out
      have r0 := b1m R2; have rf := b1f R2; have hsr := R2.1
      have k0 := b1m R3; have hk := R3.1
      have HW3 := Lib.hid hw3; have HQ3 := Lib.hid q
      clear hw3 R2 R3 q
      go_wp2_with fail
      rw [HW3.out]
      clear r0 rf hsr y0 hsx v0 v1 v2 v3 v4 v5 v6 hsy
      refine bodyPost_ret (by simp [results, Try.results18, go_sem, k0]; try rfl) rfl ?_
      exact HQ3.out
    | true =>
      cases th with
      | false =>
        obtain ⟨w3, hw3, R2, R3, q⟩ := ERR.out 5 w5 (by rw [HH.out]; simp) B5.out
        have r0 := b1m R2; have rf := b1f R2; have hsr := R2.1
        have k0 := b1m R3; have hk := R3.1
        have HW3 := Lib.hid hw3; have HQ3 := Lib.hid q
        clear hw3 R2 R3 q
        go_wp2_with fail
        rw [HW3.out]
        clear r0 rf hsr y0 hsx v0 v1 v2 v3 v4 v5 v6 hsy
        refine bodyPost_ret (by simp [results, Try.results18, go_sem, k0]; try rfl) rfl ?_
        exact HQ3.out
      | true =>
        obtain ⟨p, hp, hid, hd⟩ := place_at HTH.out
        rw [HPL.out] at hp hd
        obtain ⟨rs, hS, hO⟩ := HM.out.s
        have hpn : pl < n := by rw [← HMN.out]; exact (List.getElem?_eq_some_iff.1 hp).1
        obtain ⟨bA, oA, rfl, -⟩ := hS.at hpn
        obtain ⟨q, hq⟩ : ∃ q, rs[pl]? = some q := ⟨_, List.getElem?_eq_getElem (by rw [hS.1]; exact hpn)⟩
        have hok := hO.at_ pl q p hq hp
        have hqh : q.hired = p.hired := hok.hired
        have hqn : p.recs.length = q.n := hok.recs.1
        have hU : PMa.Up p.recs := HF.out.ups p (List.mem_of_getElem? hp)
        have hL8 : p.recs.length ≤ 80000 := HLL.out p (List.mem_of_getElem? hp)
        have HRH := Lib.hid hqh; have HQN := Lib.hid hqn; have HU := Lib.hid hU; have HL8 := Lib.hid hL8; have HD := Lib.hid hd
        have HSl := Lib.hid hS; have HRr := Lib.hid hq; have HOK := Lib.hid hok; have HO := Lib.hid hO; have HPN := Lib.hid hpn
        have gp : (pl : Int) < (n : Int) := by omega
        have gp0 : (0 : Int) ≤ (pl : Int) := by omega
        have BB5 := Lib.hid (below_step B1.out B5.out)
        obtain ⟨l0, l1, l2, l3, l4⟩ := raw_cell (HSl.out.on BB5.out) HPN.out HRr.out
        have hsl := World.block_lt_of_cell? w5 _ l0
        clear hp hid hd hS hO hpn hq hok hqh hqn hU hL8 HTH HPL HLL HF
        by_cases hlt : r.frm < q.hired
        · have e1 : decide (r.frm < q.hired) = true := decide_eq_true hlt
          obtain ⟨w3, hw3, R2, R3, qq⟩ := ERR.out 1 w5.drew (by rw [HH.out, HD.out, ← HRH.out]; simp [hlt]) B5.out.drew
          have r0 := b1m R2; have rf := b1f R2; have hsr := R2.1
          have k0 := b1m R3; have hk := R3.1
          have HW3 : Hid ((w5.setCell ⟨w.heap.size + 2, 0, none⟩ (.slice (some ⟨bA, oA, none⟩) n c)).drew = w3) := Lib.hid hw3
          have HQ3 := Lib.hid qq
          clear hw3 R2 R3 qq hlt
          go_upto_region 6 with fail
          go_region
          go_wp2_with fail
          rw [HW3.out]
          clear r0 rf hsr y0 hsx v0 v1 v2 v3 v4 v5 v6 hsy l0 l1 l2 l3 l4 hsl
          refine bodyPost_ret (by simp [results, Try.results18, go_sem, k0]; try rfl) rfl ?_
          exact HQ3.out
        · have e1 : decide (r.frm < q.hired) = false := decide_eq_false hlt
          obtain ⟨u1, hu1⟩ : ∃ u, PMa.upTo p.recs (r.frm - 1) = u := ⟨_, rfl⟩
          obtain ⟨u2, hu2⟩ : ∃ u, PMa.upTo p.recs r.frm = u := ⟨_, rfl⟩
          have hle : u1 ≤ u2 := by rw [← hu1, ← hu2]; exact upTo_less _ _
          have hle2 : u2 ≤ q.n := by rw [← hu2, ← HQN.out]; exact upTo_le _ _
          have HE : Hid (PMa.change M id r = (PMa.with_ M pl (pl + 1) { p with recs := PMa.with_ p.recs u1 u2 r }, 0)) := Lib.hid (by rw [HH.out, HD.out, ← HRH.out, hu1, hu2]; simp [hlt])
          have gfr : 22800 ≤ r.frm ∧ r.frm ≤ 35999 := by
            have h := HI2.out
            unfold PMa.isRcd PMa.isPer at h
            simp only [Bool.and_eq_true, decide_eq_true_eq] at h
            exact h.1.1.1.1.1
          have gw : IntKind.i64.wrap (r.frm - 1) = r.frm - 1 := by rw [IntKind.wrap_i64]; omega
          have CU1 := Lib.hid (fun wz (hb : Below w.heap.size w wz) => (by have h := kupto_any (c := q.c) (HOK.out.on hb).recs (by have := HL8.out; have := HQN.out; omega) HU.out (r.frm - 1); rw [hu1] at h; exact h : Calls Try.prog 34 #[.slice q.A q.n q.c, .int .i64 (r.frm - 1)] wz (IntM (u1 : Nat) wz)))
          have CU2 := Lib.hid (fun wz (hb : Below w.heap.size w wz) => (by have h := kupto_any (c := q.c) (HOK.out.on hb).recs (by have := HL8.out; have := HQN.out; omega) HU.out r.frm; rw [hu2] at h; exact h : Calls Try.prog 34 #[.slice q.A q.n q.c, .int .i64 r.frm] wz (IntM (u2 : Nat) wz)))
          have CV := Lib.hid (fun wz (hb : Below w.heap.size w wz) => with_R (HOK.out.on hb).recs HOK.out.a0 HOK.out.ac HOK.out.cm hle hle2 (by have := HL8.out; have := HQN.out; omega) r)
          obtain ⟨w6, hw6, P6, b6⟩ : ∃ w6, (w5.alloc (.cells #[.int .i64 q.id, .int .i64 q.hired, .int .i64 q.gone, .slice q.A q.n q.c, .slice q.B q.m q.d] 53)).drew = w6 ∧ Box w6 w5.heap.size [.int .i64 q.id, .int .i64 q.hired, .int .i64 q.gone, .slice q.A q.n q.c, .slice q.B q.m q.d] ∧ Below w5.heap.size w5 w6 := by
            obtain ⟨w6, h6, P6, b6⟩ := raw_box w5.drew (.int .i64 q.id) (.int .i64 q.hired) (.int .i64 q.gone) (.slice q.A q.n q.c) (.slice q.B q.m q.d) 53
            exact ⟨w6, h6, P6, (Below.refl _ w5).drew.trans b6⟩
          have B6 := Lib.hid (below_step B5.out b6)
          have HW6 := Lib.hid hw6; have HP6 := Lib.hid P6
          clear hw6 P6 b6 hlt gfr hu1 hu2
          go_upto_region 6 with fail
          go_region
          go_upto_region 9 with fail
          rw [HW6.out]
          clear HW6 l0 l1 l2 l3 l4 hsl y0 hsx v0 v1 v2 v3 v4 v5 v6 hsy
          have Z0 : Rd8 w5.heap.size (w.heap.size + 1) (.slice q.A q.n q.c) (.int .i64 r.frm) (.int .i64 r.ctr) (.int .i64 r.base) (.int .i64 r.bonus) (.int .i64 r.hours) (.int .i64 r.days) (.bool r.lead) w6.drew := Rd8.of (HP6.out.on (Below.refl _ w6).drew) (HY.out.on B6.out.drew)
          have hP1 : w1.heap.size ≤ w5.heap.size := B5.out.size
          have BD := Lib.hid (B1.out.trans (B6.out.drew.mono B1.out.size))
          go_cut [] (fun wx => ∃ g cap, Hid (Box wx w5.heap.size [.int .i64 q.id, .int .i64 q.hired, .int .i64 q.gone, .slice (some ⟨g, 0, none⟩) (u1 + 1 + (q.n - u2)) cap, .slice q.B q.m q.d]) ∧ Hid (SlX rcdR wx (some ⟨g, 0, none⟩) (u1 + 1 + (q.n - u2)) (PMa.with_ p.recs u1 u2 r)) ∧ (u1 + 1 + (q.n - u2)) ≤ cap ∧ cap ≤ maxLen ∧ Hid (Below w1.heap.size w1 wx) ∧ w1.heap.size ≤ g)
          case first =>
            refine wp_region_till 16 (Rd8 w5.heap.size (w.heap.size + 1) (.slice q.A q.n q.c) (.int .i64 r.frm) (.int .i64 r.ctr) (.int .i64 r.base) (.int .i64 r.bonus) (.int .i64 r.hours) (.int .i64 r.days) (.bool r.lead)) (by kernel_rfl) Z0 (fun hHeld => ?_)
            refine till_take (i := 0) (m := 14) (l := [1, 0]) (v := .pointer (some ⟨w5.heap.size, 3, none⟩)) rfl (by kernel_rfl) (by kernel_rfl) (by kernel_rfl) (by kernel_rfl) rfl (fun _ _ _ h => h) (Or.inl ⟨by rfl, fun w hSw => by obtain ⟨a0, a1, a2, a3, a4, a5, a6, a7⟩ := hSw; go_simp⟩) hHeld ?_
            try simp only [Act.put, List.getElem_toArray, List.getElem_cons_succ, List.getElem_cons_zero, List.setIfInBounds_toArray, List.set_cons_zero, List.set_cons_succ]
            refine till_take (i := 1) (m := 14) (l := [1]) (v := .slice q.A q.n q.c) rfl (by kernel_rfl) (by kernel_rfl) (by kernel_rfl) (by kernel_rfl) rfl (fun _ _ _ h => h) (Or.inl ⟨by rfl, fun w hSw => by obtain ⟨a0, a1, a2, a3, a4, a5, a6, a7⟩ := hSw; go_simp⟩) hHeld ?_
            try simp only [Act.put, List.getElem_toArray, List.getElem_cons_succ, List.getElem_cons_zero, List.setIfInBounds_toArray, List.set_cons_zero, List.set_cons_succ]
            refine till_take (i := 2) (m := 14) (l := [7, 3, 2]) (v := .pointer (some ⟨w5.heap.size, 3, none⟩)) rfl (by kernel_rfl) (by kernel_rfl) (by kernel_rfl) (by kernel_rfl) rfl (fun _ _ _ h => h) (Or.inl ⟨by rfl, fun w hSw => by obtain ⟨a0, a1, a2, a3, a4, a5, a6, a7⟩ := hSw; go_simp⟩) hHeld ?_
            try simp only [Act.put, List.getElem_toArray, List.getElem_cons_succ, List.getElem_cons_zero, List.setIfInBounds_toArray, List.set_cons_zero, List.set_cons_succ]
            refine till_take (i := 3) (m := 14) (l := [7, 3]) (v := .slice q.A q.n q.c) rfl (by kernel_rfl) (by kernel_rfl) (by kernel_rfl) (by kernel_rfl) rfl (fun _ _ _ h => h) (Or.inl ⟨by rfl, fun w hSw => by obtain ⟨a0, a1, a2, a3, a4, a5, a6, a7⟩ := hSw; go_simp⟩) hHeld ?_
            try simp only [Act.put, List.getElem_toArray, List.getElem_cons_succ, List.getElem_cons_zero, List.setIfInBounds_toArray, List.set_cons_zero, List.set_cons_succ]
            refine till_take (i := 4) (m := 14) (l := [7, 6, 5, 4]) (v := .pointer (some ⟨w.heap.size + 1, 0, none⟩)) rfl (by kernel_rfl) (by kernel_rfl) (by kernel_rfl) (by kernel_rfl) rfl (fun _ _ _ h => h) (Or.inl ⟨by rfl, fun w hSw => by obtain ⟨a0, a1, a2, a3, a4, a5, a6, a7⟩ := hSw; go_simp⟩) hHeld ?_
            try simp only [Act.put, List.getElem_toArray, List.getElem_cons_succ, List.getElem_cons_zero, List.setIfInBounds_toArray, List.set_cons_zero, List.set_cons_succ]
            refine till_take (i := 5) (m := 14) (l := [7, 6, 5]) (v := .int .i64 r.frm) rfl (by kernel_rfl) (by kernel_rfl) (by kernel_rfl) (by kernel_rfl) rfl (fun _ _ _ h => h) (Or.inl ⟨by rfl, fun w hSw => by obtain ⟨a0, a1, a2, a3, a4, a5, a6, a7⟩ := hSw; go_simp⟩) hHeld ?_
            try simp only [Act.put, List.getElem_toArray, List.getElem_cons_succ, List.getElem_cons_zero, List.setIfInBounds_toArray, List.set_cons_zero, List.set_cons_succ]
            refine till_take (i := 6) (m := 14) (l := [7, 6]) (v := .int .i64 (r.frm - 1)) rfl (by kernel_rfl) (by kernel_rfl) (by kernel_rfl) (by kernel_rfl) rfl (fun _ _ _ h => h) (Or.inl ⟨by rfl, fun w hSw => by obtain ⟨a0, a1, a2, a3, a4, a5, a6, a7⟩ := hSw; go_simp⟩) hHeld ?_
            try simp only [Act.put, List.getElem_toArray, List.getElem_cons_succ, List.getElem_cons_zero, List.setIfInBounds_toArray, List.set_cons_zero, List.set_cons_succ]
            refine till_take (i := 8) (m := 14) (l := [12, 9, 8]) (v := .pointer (some ⟨w5.heap.size, 3, none⟩)) rfl (by kernel_rfl) (by kernel_rfl) (by kernel_rfl) (by kernel_rfl) rfl (fun _ _ _ h => h) (Or.inl ⟨by rfl, fun w hSw => by obtain ⟨a0, a1, a2, a3, a4, a5, a6, a7⟩ := hSw; go_simp⟩) hHeld ?_
            try simp only [Act.put, List.getElem_toArray, List.getElem_cons_succ, List.getElem_cons_zero, List.setIfInBounds_toArray, List.set_cons_zero, List.set_cons_succ]
            refine till_take (i := 9) (m := 14) (l := [12, 9]) (v := .slice q.A q.n q.c) rfl (by kernel_rfl) (by kernel_rfl) (by kernel_rfl) (by kernel_rfl) rfl (fun _ _ _ h => h) (Or.inl ⟨by rfl, fun w hSw => by obtain ⟨a0, a1, a2, a3, a4, a5, a6, a7⟩ := hSw; go_simp⟩) hHeld ?_
            try simp only [Act.put, List.getElem_toArray, List.getElem_cons_succ, List.getElem_cons_zero, List.setIfInBounds_toArray, List.set_cons_zero, List.set_cons_succ]
            refine till_take (i := 10) (m := 14) (l := [12, 11, 10]) (v := .pointer (some ⟨w.heap.size + 1, 0, none⟩)) rfl (by kernel_rfl) (by kernel_rfl) (by kernel_rfl) (by kernel_rfl) rfl (fun _ _ _ h => h) (Or.inl ⟨by rfl, fun w hSw => by obtain ⟨a0, a1, a2, a3, a4, a5, a6, a7⟩ := hSw; go_simp⟩) hHeld ?_
            try simp only [Act.put, List.getElem_toArray, List.getElem_cons_succ, List.getElem_cons_zero, List.setIfInBounds_toArray, List.set_cons_zero, List.set_cons_succ]
            refine till_take (i := 11) (m := 14) (l := [12, 11]) (v := .int .i64 r.frm) rfl (by kernel_rfl) (by kernel_rfl) (by kernel_rfl) (by kernel_rfl) rfl (fun _ _ _ h => h) (Or.inl ⟨by rfl, fun w hSw => by obtain ⟨a0, a1, a2, a3, a4, a5, a6, a7⟩ := hSw; go_simp⟩) hHeld ?_
            try simp only [Act.put, List.getElem_toArray, List.getElem_cons_succ, List.getElem_cons_zero, List.setIfInBounds_toArray, List.set_cons_zero, List.set_cons_succ]
            refine till_take (i := 13) (m := 14) (l := [13]) (v := .agg #[.int .i64 r.frm, .int .i64 r.ctr, .int .i64 r.base, .int .i64 r.bonus, .int .i64 r.hours, .int .i64 r.days, .bool r.lead]) rfl (by kernel_rfl) (by kernel_rfl) (by kernel_rfl) (by kernel_rfl) rfl (fun _ _ _ h => h) (Or.inl ⟨by rfl, fun w hSw => by obtain ⟨a0, a1, a2, a3, a4, a5, a6, a7⟩ := hSw; go_simp⟩) hHeld ?_
            try simp only [Act.put, List.getElem_toArray, List.getElem_cons_succ, List.getElem_cons_zero, List.setIfInBounds_toArray, List.set_cons_zero, List.set_cons_succ]
            refine till_one (i := 7) (by kernel_rfl) (till_step rfl (fun K hK => ?_))
            go_simp
            refine (CU1.out _ BD.out).mono ?_
            rintro _ w7 ⟨rfl, b7⟩
            have Z1 := Z0.on b7
            refine hK.out _ _ (fun _ => Z1) (fun hHeld => ?_)
            replace hHeld := hHeld (by decide)
            clear hK K
            try simp only [Act.put, List.getElem_toArray, List.getElem_cons_succ, List.getElem_cons_zero, List.setIfInBounds_toArray, List.set_cons_zero, List.set_cons_succ]
            have BD7 := Lib.hid (below_step BD.out b7)
            refine till_one (i := 12) (by kernel_rfl) (till_step rfl (fun K hK => ?_))
            go_simp
            refine (CU2.out _ BD7.out).mono ?_
            rintro _ w8 ⟨rfl, b8⟩
            have Z2 := Z1.on b8
            refine hK.out _ _ (fun _ => Z2) (fun hHeld => ?_)
            replace hHeld := hHeld (by decide)
            clear hK K
            try simp only [Act.put, List.getElem_toArray, List.getElem_cons_succ, List.getElem_cons_zero, List.setIfInBounds_toArray, List.set_cons_zero, List.set_cons_succ]
            have BD8 := Lib.hid (below_step BD7.out b8)
            refine till_one (i := 14) (by kernel_rfl) (till_step rfl (fun K hK => ?_))
            go_simp
            refine (CV.out _ BD8.out).mono ?_
            rintro _ w9 ⟨g, cap, rfl, hg9, S9, hc9, hm9, b9⟩
            have Z3 := Z2.on b9
            refine hK.out _ _ (fun _ => Z3) (fun hHeld => ?_)
            replace hHeld := hHeld (by decide)
            clear hK K
            try simp only [Act.put, List.getElem_toArray, List.getElem_cons_succ, List.getElem_cons_zero, List.setIfInBounds_toArray, List.set_cons_zero, List.set_cons_succ]
            refine till_take (i := 15) (m := 15) (l := []) (v := .pointer (some ⟨w5.heap.size, 3, none⟩)) rfl (by kernel_rfl) (by kernel_rfl) (by kernel_rfl) (by kernel_rfl) rfl (fun _ _ _ h => h) (Or.inl ⟨by rfl, fun w hSw => by obtain ⟨a0, a1, a2, a3, a4, a5, a6, a7⟩ := hSw; go_simp⟩) hHeld ?_
            try simp only [Act.put, List.getElem_toArray, List.getElem_cons_succ, List.getElem_cons_zero, List.setIfInBounds_toArray, List.set_cons_zero, List.set_cons_succ]
            have b69 : Below w6.heap.size w6 w9 := below_step (below_step (below_step (Below.refl _ w6).drew b7) b8) b9
            have P9 := HP6.out.on b69
            obtain ⟨p0, p1, p2, p3, p4⟩ := box5 P9
            obtain ⟨pf0, pf1, pf2, pf3, pf4⟩ := box5f P9
            have hsp := P9.1
            have hg1 : w5.heap.size < g := by have := HP6.out.1; have h7 : w6.heap.size ≤ w7.heap.size := b7.size; have h8 := b8.size; omega
            obtain ⟨w10, hw10, P10, ON10⟩ : ∃ w', w9.setCell ⟨w5.heap.size, 3, none⟩ (.slice (some ⟨g, 0, none⟩) (u1 + 1 + (q.n - u2)) cap) = w' ∧ Box w' w5.heap.size [.int .i64 q.id, .int .i64 q.hired, .int .i64 q.gone, .slice (some ⟨g, 0, none⟩) (u1 + 1 + (q.n - u2)) cap, .slice q.B q.m q.d] ∧ Only w5.heap.size w9 w' := ⟨_, rfl, P9.set 3 (by simp) _, (Only.refl _ w9).set 3 _⟩
            have HZ : Hid (Box w10 w5.heap.size [.int .i64 q.id, .int .i64 q.hired, .int .i64 q.gone, .slice (some ⟨g, 0, none⟩) (u1 + 1 + (q.n - u2)) cap, .slice q.B q.m q.d] ∧ SlX rcdR w10 (some ⟨g, 0, none⟩) (u1 + 1 + (q.n - u2)) (PMa.with_ p.recs u1 u2 r) ∧ Below w1.heap.size w1 w10) := Lib.hid ⟨P10, SlX.only S9 ON10 (fun b o e hn => by cases e; omega), ON10.below hP1 (below_step B6.out b69)⟩
            have HW10 := Lib.hid hw10
            clear hw10 P10 ON10 S9 b7 b8 b9 b69 P9 Z1 Z2 Z3 BD7 BD8 hHeld
            refine till_one (i := 16) (by kernel_rfl) (till_step rfl (fun K hK => ?_))
            go_simp
            rw [HW10.out]
            refine hK.out _ _ (fun h => absurd rfl h) (fun _ => ?_)
            clear hK K
            try simp only [Act.put, List.getElem_toArray, List.getElem_cons_succ, List.getElem_cons_zero, List.setIfInBounds_toArray, List.set_cons_zero, List.set_cons_succ]
            refine till_done (by kernel_rfl) ?_ _
            clear p0 p1 p2 p3 p4 pf0 pf1 pf2 pf3 pf4 hsp HW10
            go_wp2_with fail
            go_meet
            exact ⟨g, cap, Lib.hid HZ.out.1, Lib.hid HZ.out.2.1, hc9, hm9, Lib.hid HZ.out.2.2, by omega⟩
          case rest =>
            obtain ⟨gR, capR, HPb, HSr, hcR, hmR, HBc, hgR⟩ := hcut
            have BBc := Lib.hid (below_step B1.out HBc.out)
            have CW := Lib.hid (with_P (HSl.out.on BBc.out) HM.out.a0 HM.out.nc HM.out.cm (Nat.le_succ pl) (by have := HPN.out; omega) (by omega) ⟨q.id, q.hired, q.gone, some ⟨gR, 0, none⟩, (u1 + 1 + (q.n - u2)), capR, q.B, q.m, q.d⟩)
            have HX8 := Lib.hid (HX.out.on HBc.out)
            have HR8 := Lib.hid (HR.out.on HBc.out)
            obtain ⟨z0, z1, z2, z3, z4⟩ := box5 HPb.out
            have hsz := HPb.out.1
            have y0 := b1m HX8.out
            have hsx := HX8.out.1
            have hp1 : w.heap.size + 2 < w1.heap.size := HR.out.1
            clear CU1 CU2 CV Z0
            go_wp2_with (go_at_call 27; refine CW.out.mono ?_)
            intro e9 wa h9
            obtain ⟨g, cap, rfl, hg9, S9, hc9, hm9, b9⟩ := h9
            have hg2 : w.heap.size + 2 < g := by have := HR8.out.1; omega
            have Ra := HR8.out.on b9
            obtain ⟨wb, hwb, Rb, ONb⟩ := set1 Ra (.slice (some ⟨g, 0, none⟩) (pl + 1 + (n - (pl + 1))) cap)
            have Bb := Lib.hid (ONb.below hbase (below_step BBc.out b9))
            have FZ := Lib.hid (F.out _ _ _ _ _ wb HE.out (maI_with HO.out HMN.out Bb.out (by have := HPN.out; omega) (Nat.le_succ pl) (r := ⟨q.id, q.hired, q.gone, some ⟨gR, 0, none⟩, (u1 + 1 + (q.n - u2)), capR, q.B, q.m, q.d⟩) (p := { p with recs := PMa.with_ p.recs u1 u2 r })
              ⟨(HOK.out.on Bb.out).id, (HOK.out.on Bb.out).hired, (HOK.out.on Bb.out).gone, SlX.only (HSr.out.on b9) ONb (fun b o e hn => by cases e; omega), (HOK.out.on Bb.out).ords, (fun h => by cases h), HOK.out.b0, hcR, HOK.out.bd, hmR, HOK.out.dm⟩
              (SlX.only S9 ONb (fun b o e hn => by cases e; omega)) hc9 hm9) Bb.out)
            have r0 := b1m Ra; have rf := b1f Ra; have hsr := Ra.1
            have k0 := b1m Rb; have hk := Rb.1
            have HWb := Lib.hid hwb
            clear b9 S9 Ra Rb ONb hwb CW z0 z1 z2 z3 z4 hsz y0 hsx
            go_wp2_with fail
            rw [HWb.out]
            clear r0 rf hsr
            refine bodyPost_ret (by simp [results, Try.results18, go_sem, k0]; try rfl) rfl ?_
            exact FZ.out
end Go.Proofs.Ytbnnmakmgleikaa
