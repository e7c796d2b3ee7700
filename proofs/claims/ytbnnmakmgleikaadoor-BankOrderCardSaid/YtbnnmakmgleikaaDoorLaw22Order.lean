/-
  BankOrder: payments in another order are no file; nor are two to the same.
-/
import Derived.Test.YtbnnmakmgleikaaDoorLaw22Kit
import Derived.Test.YtbnnmakmgleikaaDoorLaw22Writes
import Derived.Test.YtbnnmakmgleikaaDoorBkLawMath
import Derived.Test.YtbnnmakmgleikaaDoorStepRecsG
import Derived.Test.YtbnnmakmgleikaaDoorStepRec
import Derived.Deep.RegionHeld3
import Derived.Deep.DeepCutAuto
import Derived.BigQuiet
set_option linter.unusedVariables false
set_option linter.unusedSimpArgs false
namespace Go.Proofs.YtbnnmakmgleikaaDoor
open Go.RowKit
open PBank (Pay)

theorem below_drewO (w : World) (q : Nat) : Below w.heap.size w (w.drewN q) := ⟨rfl, rfl, rfl, Nat.le_refl _, fun _ _ => rfl⟩
/-- A payment is stored in a row. -/
theorem store_pay {w : World} {g n a : Nat} {l : List Pay} {q : Pay} (h : SlX payR w (some ⟨g, 0, none⟩) n l) (ha : a < n) :
    SlX payR (((w.setCell ⟨g, a * 3, none⟩ (.int .u8 q.kind)).setCell ⟨g, a * 3 + 1, none⟩ (.int .i64 q.num)).setCell ⟨g, a * 3 + 2, none⟩ (.int .i64 q.amt)) (some ⟨g, 0, none⟩) n (l.set a q) := by
  have hal : a < l.length := by rw [h.1]; exact ha
  obtain ⟨b', o', e, hc⟩ := h.at ha
  cases e
  have e3 : payR.k = 3 := rfl
  rw [e3] at hc
  have a0 := hc a hal 0 _ rfl
  have a1 := hc a hal 1 _ rfl
  have a2 := hc a hal 2 _ rfl
  rw [Nat.zero_add] at a0 a1 a2
  refine ⟨by rw [List.length_set]; exact h.1, .inr ⟨g, 0, rfl, fun i hi j v hv => ?_⟩⟩
  rw [List.length_set] at hi
  have hj : j < 3 := by
    have := (List.getElem?_eq_some_iff.1 hv).1
    rw [payR.len] at this; exact this
  rw [Nat.zero_add, e3]
  by_cases hia : i = a
  · subst hia
    rw [List.getElem_set_self] at hv
    have hv' : ([.int .u8 q.kind, .int .i64 q.num, .int .i64 q.amt] : List Value)[j]? = some v := hv
    rcases j with _ | _ | _ | j
    · obtain rfl := Option.some.inj hv'
      rw [World.cell?_setCell_other _ _ _ _ (by first | (simp; done) | (simp; omega)), World.cell?_setCell_other _ _ _ _ (by first | (simp; done) | (simp; omega))]
      exact World.cell?_setCell_same _ _ _ a0
    · obtain rfl := Option.some.inj hv'
      rw [World.cell?_setCell_other _ _ _ _ (by first | (simp; done) | (simp; omega))]
      exact World.cell?_setCell_same _ _ _ ((World.cell?_setCell_other _ _ _ _ (by first | (simp; done) | (simp; omega))).trans a1)
    · obtain rfl := Option.some.inj hv'
      exact World.cell?_setCell_same _ _ _ ((World.cell?_setCell_other _ _ _ _ (by first | (simp; done) | (simp; omega))).trans ((World.cell?_setCell_other _ _ _ _ (by first | (simp; done) | (simp; omega))).trans a2))
    · omega
  · rw [List.getElem_set_ne (fun e => hia e.symm)] at hv
    have hn0 : ∀ d, d < 3 → a * 3 + d ≠ i * 3 + j := fun d hd => by
      rcases Nat.lt_or_gt_of_ne hia with g1 | g1 <;> omega
    have n0 := hn0 0 (by omega); have n1 := hn0 1 (by omega); have n2 := hn0 2 (by omega)
    have := hc i hi j v hv
    rw [Nat.zero_add] at this
    rw [World.cell?_setCell_other _ _ _ _ (by first | (simp; done) | (simp; omega)), World.cell?_setCell_other _ _ _ _ (by first | (simp; done) | (simp; omega)), World.cell?_setCell_other _ _ _ _ (by first | (simp; done) | (simp; omega))]
    exact this
set_option maxRecDepth 100000 in
set_option maxHeartbeats 12800000 in
theorem border_walk {per : Int} {A : Option Addr} {n c : Nat} {l : List Pay} {z1 z2 : Int} (w : World) (ht : TabE w) (hS : SlX payR w A n l) (hn : (n : Int) ≤ 9223372036854775807) (hA : A = none → c = 0)
    (g1 : (Lit.int .u8 z1).wf = true) (g2 : (Lit.int .u8 z2).wf = true) :
    Calls Tryd.prog 7 #[.agg #[.int .i64 per, .slice A n c], .int .u8 z1, .int .u8 z2] w (FlagB true w) := by
  obtain ⟨Q, hQ⟩ : ∃ Q, FlagB true w = Q := ⟨_, rfl⟩
  rw [hQ]
  have FIN : Hid (∀ (w' : World), Below w.heap.size w w' → Q (.returned (.bool true)) w') := Lib.hid (fun w' a => by rw [← hQ]; exact ⟨rfl, a⟩)
  obtain ⟨w1, hw1, XB, b1⟩ : ∃ w1, w.alloc (.cells #[.int .i64 per, .slice A n c] 24) = w1 ∧ Box w1 w.heap.size [.int .i64 per, .slice A n c] ∧ Below w.heap.size w w1 := ⟨_, rfl, Box.new _ _ [.int .i64 per, .slice A n c], (Below.refl _ _).alloc (Nat.le_refl _) _⟩
  obtain ⟨x0, x1⟩ := c2 XB
  have hsx := XB.1
  have HS := Lib.hid (hS.on b1); have HXB := Lib.hid XB; have HT := Lib.hid (ht.on b1); have HAN := Lib.hid hA
  have B1 := Lib.hid b1; have HW1 := Lib.hid hw1
  have hln : l.length = n := hS.1
  have AWA : Hid (∀ wz, Below w1.heap.size w1 wz → Calls Tryd.prog 9 #[] wz (FlagB true wz)) := Lib.hid (fun wz hb => aw22_any wz (HT.out.on hb).1 (HT.out.on hb).2)
  obtain ⟨u0, u1⟩ := u8_bounds g1
  obtain ⟨v0, v1⟩ := u8_bounds g2
  clear hQ XB b1 hw1 hS ht g1 g2 hA
  by_cases h2 : (n : Int) < 2 ∨ (100 : Int) < (n : Int)
  · have AW := Lib.hid (AWA.out w1 (Below.refl _ _))
    rcases h2 with h2 | h2
    all_goals
      (try have h2' : ¬ (n : Int) < 2 := by omega)
      go_enter Tryd.func7, Tryd.ntmps7
      go_upto_region 1 with fail
      rw [HW1.out]
      go_wp2_with (go_at_call 9; refine AW.out.mono ?_)
      intro e3 w3 h3
      obtain ⟨rfl, b3'⟩ := h3
      have B3 := Lib.hid (below_step B1.out b3')
      clear b3' AW
      go_wp2_with fail
      exact FIN.out _ B3.out
  have gl : ¬ (n : Int) < 2 := by omega
  have gh : ¬ (100 : Int) < (n : Int) := by omega
  have C1 := Lib.hid (bref_n (per := per) (c := c) HS.out (by omega))
  by_cases hR : PBank.Rt per l
  · have HR := Lib.hid hR; have HLN := Lib.hid hln
    obtain ⟨a1, rfl⟩ : ∃ q : Nat, z1 = q := ⟨z1.toNat, by omega⟩
    obtain ⟨b1, rfl⟩ : ∃ q : Nat, z2 = q := ⟨z2.toNat, by omega⟩
    obtain ⟨a, hma⟩ : ∃ m, a1 % n = m := ⟨_, rfl⟩
    obtain ⟨b, hmb⟩ : ∃ m, b1 % n = m := ⟨_, rfl⟩
    have hal : a < n := by rw [← hma]; exact Nat.mod_lt _ (by omega)
    have hbl : b < n := by rw [← hmb]; exact Nat.mod_lt _ (by omega)
    have ea : ((a1 : Int)).tmod (n : Int) = (a : Int) := by rw [← hma]; rfl
    have eb : ((b1 : Int)).tmod (n : Int) = (b : Int) := by rw [← hmb]; rfl
    have n0 : ¬ (n : Int) = 0 := by omega
    obtain ⟨bA, oA, rfl, -⟩ := HS.out.at hal
    clear hma hmb hR hln h2
    go_enter Tryd.func7, Tryd.ntmps7
    go_upto_region 1 with fail
    rw [HW1.out]
    go_wp2_with (go_at_call 12; refine C1.out.mono ?_)
    intro e3 w3 h3
    obtain ⟨A3, c3, rfl, S3, b3'⟩ := h3
    have D3 := Lib.hid (right_n (per := per) (c := c3) S3 (by omega) HR.out)
    have B3 := Lib.hid b3'
    clear S3 b3' C1 x0 x1 hsx
    go_wp2_with (go_at_call 11; refine D3.out.mono ?_)
    intro e4 w4 h4
    obtain ⟨rfl, b4⟩ := h4
    have B4 := Lib.hid (below_step B3.out b4)
    clear b4 B3 D3
    go_upto_region 4 with fail
    go_quiet (fail)
    have BQ := B4.out.trans ((below_drewO w4 nq).mono B4.out.size)
    have BQH := Lib.hid BQ
    obtain ⟨y0, y1⟩ := c2 (HXB.out.on BQ)
    have hsy := (HXB.out.on BQ).1
    obtain ⟨w5, hw5⟩ : ∃ w5, w5 = w4.drewN nq := ⟨_, rfl⟩
    rw [← hw5] at BQH y0 y1 hsy ⊢
    clear BQ hw5 B4
    have OWN0 : Hid ((w5.alloc (.cells #[] 44)).ownsRow w5.heap.size 44 payR.k (.slice (some ⟨w5.heap.size, 0, none⟩) 0 0) ([] : List Pay).length (payR.cells [])) := Lib.hid (own_built payR w5 44 [] (Nat.le_refl _) (by unfold maxLen; decide))
    have b5a := (Below.refl w5.heap.size w5).alloc (Nat.le_refl _) (.cells #[] 44)
    have SL5 := Lib.hid ((HS.out.on BQH.out).on b5a)
    have YB := (HXB.out.on BQH.out).on b5a
    have hsy5 := YB.1
    obtain ⟨y50, y51⟩ := c2 YB
    have hn2 : ([] : List Pay).length + n ≤ 100000 := by simp; omega
    have hb5 : w5.heap.size ≤ (w5.alloc (.cells #[] 44)).heap.size := by simp
    have B5A := Lib.hid b5a
    clear YB b5a
    go_upto_region 5 with fail
    go_wp2_with (at_builtin; refine append_recs pay_recTy rfl _ _ rfl w5.heap.size (.slice (some ⟨w5.heap.size, 0, none⟩) 0 0) [] (by rfl) OWN0.out (some ⟨bA, oA, none⟩) n c l (by rfl) HAN.out SL5.out hn2 hb5 ?_)
    intro v' w6 hown hb6
    obtain ⟨g, cap, rfl, hg0, hcap, SG⟩ : ∃ g cap, v' = .slice (some ⟨g, 0, none⟩) n cap ∧ w5.heap.size ≤ g ∧ n ≤ cap ∧ SlX payR w6 (some ⟨g, 0, none⟩) n l := by
      (try simp only [List.length_nil, Nat.zero_add, List.nil_append] at hown)
      obtain ⟨A', cap, e, h1, h2, h3⟩ := slr_of_own hown HLN.out
      obtain ⟨b', o', e2, -⟩ := h3.at hal
      rcases hown.2 with ⟨e3, e4⟩ | ⟨g, cap', cur, e3, hg, -⟩
      · rw [e3] at e; cases e; cases e2
      · rw [e3] at e; cases e
        exact ⟨g, cap, e3, hg, h2, h3⟩
    have fr : ∀ j, w6.frozen? ⟨g, j, none⟩ = false := fun j => by
      (try simp only [List.length_nil, Nat.zero_add, List.nil_append] at hown)
      exact hown.frozenAt j
    have B6 := Lib.hid (B5A.out.trans hb6)
    have OWN6 := Lib.hid hown
    obtain ⟨p, hp⟩ : ∃ p, l[a]? = some p := ⟨_, List.getElem?_eq_getElem (by rw [HLN.out]; exact hal)⟩
    obtain ⟨q, hq⟩ : ∃ p, l[b]? = some p := ⟨_, List.getElem?_eq_getElem (by rw [HLN.out]; exact hbl)⟩
    obtain ⟨p0, p1, p2⟩ := pay_cell SG hal hp
    obtain ⟨q0, q1, q2⟩ := pay_cell SG hbl hq
    rw [Nat.zero_add] at p0 p1 p2 q0 q1 q2
    have f0 := fr (a * 3); have f1 := fr (a * 3 + 1); have f2' := fr (a * 3 + 2)
    have k0 := fr (b * 3); have k1 := fr (b * 3 + 1); have k2 := fr (b * 3 + 2)
    have hsg := World.block_lt_of_cell? w6 _ p0
    have ia0 : (0 : Int) ≤ (a : Int) := by omega
    have ia1 : (a : Int) < (n : Int) := by omega
    have ib0 : (0 : Int) ≤ (b : Int) := by omega
    have ib1 : (b : Int) < (n : Int) := by omega
    have HSG := Lib.hid SG; have HP := Lib.hid hp; have HQ := Lib.hid hq
    clear hown hb6 SG fr hp hq y0 y1 hsy y50 y51 hsy5 SL5 OWN0 B5A
    go_upto_region 6 with fail
    obtain ⟨wz, hz⟩ : ∃ wz, (((((w6.setCell ⟨g, a * 3, none⟩ (.int .u8 q.kind)).setCell ⟨g, a * 3 + 1, none⟩ (.int .i64 q.num)).setCell ⟨g, a * 3 + 2, none⟩ (.int .i64 q.amt)).setCell ⟨g, b * 3, none⟩ (.int .u8 p.kind)).setCell ⟨g, b * 3 + 1, none⟩ (.int .i64 p.num)).setCell ⟨g, b * 3 + 2, none⟩ (.int .i64 p.amt) = wz := ⟨_, rfl⟩
    have HSW : Hid (SlX payR wz (some ⟨g, 0, none⟩) n (PBank.swap l a b p q) ∧ Below w5.heap.size w5 wz) := Lib.hid (by
      rw [← hz]
      exact ⟨store_pay (store_pay HSG.out hal) hbl, (((((B6.out.setCell (p := ⟨g, a * 3, none⟩) hg0 _).setCell (p := ⟨g, a * 3 + 1, none⟩) hg0 _).setCell (p := ⟨g, a * 3 + 2, none⟩) hg0 _).setCell (p := ⟨g, b * 3, none⟩) hg0 _).setCell (p := ⟨g, b * 3 + 1, none⟩) hg0 _).setCell (p := ⟨g, b * 3 + 2, none⟩) hg0 _⟩)
    have HZ := Lib.hid hz
    have HDR : Hid (SlX payR wz.drew (some ⟨g, 0, none⟩) n (PBank.swap l a b p q) ∧ Below w5.heap.size w5 wz.drew) := Lib.hid ⟨HSW.out.1.on ((Below.refl _ _).drew), HSW.out.2.drew⟩
    clear hz
    go_cut [] (fun wx => Hid (SlX payR wx (some ⟨g, 0, none⟩) n (PBank.swap l a b p q) ∧ Below w5.heap.size w5 wx))
    case first =>
      by_cases hab : a = b
      · have hqp : q = p := by have h := HP.out; rw [hab, HQ.out] at h; exact Option.some.inj h
        clear HP HQ HSG
        subst hab
        subst hqp
        go_region
        rw [HZ.out]
        go_wp2_with fail
        go_meet
        exact HDR
      · go_region
        rw [HZ.out]
        go_wp2_with fail
        go_meet
        exact HDR
    case rest =>
      obtain ⟨wo, hwo⟩ : ∃ wo, wo = wc := ⟨_, rfl⟩
      subst hwo
      have bw := hcut.out.2
      have SW := hcut.out.1
      have bc := below_step BQH.out bw
      obtain ⟨w7, w8, hw7, hw8, X7, X8, b78⟩ := file_box wo 24 per (some ⟨g, 0, none⟩) n cap
      obtain ⟨x0, x1⟩ := c2 X7
      obtain ⟨xf0, xf1⟩ := f2 X7
      have hsx := X7.1
      obtain ⟨y0, y1⟩ := c2 (HXB.out.on bc)
      have hsy := (HXB.out.on bc).1
      have BC8 := Lib.hid (below_step bc b78)
      have S8 := Lib.hid (SW.on b78)
      have HX8 := Lib.hid X8
      have HW8 := Lib.hid hw8
      have PB := HXB.out.on BC8.out
      obtain ⟨e0, e1⟩ := c2 PB
      have SL8 := HS.out.on BC8.out
      obtain ⟨r0, r1, r2⟩ := pay_cell SL8 hal HP.out
      have SLK : Hid (∀ W, Below w8.heap.size w8 W → SlX payR W (some ⟨bA, oA, none⟩) n l) := Lib.hid (fun W h => SL8.on h)
      have ZK : Hid (∀ W, Below w8.heap.size w8 W → (W.cell? ⟨w.heap.size, 0, none⟩ = some (.int .i64 per) ∧ W.cell? ⟨w.heap.size, 1, none⟩ = some (.slice (some ⟨bA, oA, none⟩) n c)) ∧ (W.cell? ⟨bA, oA + a * 3, none⟩ = some (.int .u8 p.kind) ∧ W.cell? ⟨bA, oA + a * 3 + 1, none⟩ = some (.int .i64 p.num) ∧ W.cell? ⟨bA, oA + a * 3 + 2, none⟩ = some (.int .i64 p.amt))) := Lib.hid (fun W h => ⟨⟨cell_keep h e0, cell_keep h e1⟩, cell_keep h r0, cell_keep h r1, cell_keep h r2⟩)
      have hnp : 0 < n := by omega
      have hn3 : 0 + n ≤ 100000 := by omega
      have hnz : 0 + n = n := Nat.zero_add n
      have HP8 := HP
      clear PB SL8 bw SW bc X7 X8 b78 hw8 e0 e1 r0 r1 r2 p0 p1 p2 q0 q1 q2 f0 f1 f2' k0 k1 k2 hsg HSW HDR HZ HSG B6 OWN6
      go_upto_region 8 with fail
      rw [HW8.out]
      clear HW8 hw7 x0 x1 xf0 xf1 hsx y0 y1 hsy
      go_cut [12] (fun v wx => ∃ kz g2 cap2, v = .pointer (some ⟨kz, 0, none⟩) ∧ Hid (Box wx kz [.int .i64 per, .slice (some ⟨g2, 0, none⟩) (n + 1) cap2] ∧ SlX payR wx (some ⟨g2, 0, none⟩) (n + 1) (l ++ [p]) ∧ Below w8.heap.size w8 wx))
      case first =>
        have Y9 : Below w8.heap.size w8 w8.drew := (Below.refl _ _).drew
        refine wp_region_held_drew (S := fun W => (W.cell? ⟨w.heap.size, 0, none⟩ = some (.int .i64 per) ∧ W.cell? ⟨w.heap.size, 1, none⟩ = some (.slice (some ⟨bA, oA, none⟩) n c)) ∧ (W.cell? ⟨bA, oA + a * 3, none⟩ = some (.int .u8 p.kind) ∧ W.cell? ⟨bA, oA + a * 3 + 1, none⟩ = some (.int .i64 p.num) ∧ W.cell? ⟨bA, oA + a * 3 + 2, none⟩ = some (.int .i64 p.amt))) (by kernel_rfl) (ZK.out _ Y9) (fun hHeld => ?_)
        generalize w8.drew = w9 at Y9 hHeld ⊢
        refine wpAnyH_take (i := 0) (v := .pointer (some ⟨w.heap.size, 0, none⟩)) rfl (by kernel_rfl) (by kernel_rfl) (by kernel_rfl) (fun _ _ _ h => h) (Or.inl ⟨by rfl, fun w hSw => by go_simp⟩) hHeld ?_
        try simp only [Act.put, List.getElem_toArray, List.getElem_cons_succ, List.getElem_cons_zero, List.setIfInBounds_toArray, List.set_cons_zero, List.set_cons_succ]
        refine wpAnyH_take (i := 1) (v := .int .i64 per) rfl (by kernel_rfl) (by kernel_rfl) (by kernel_rfl) (fun _ _ _ h => h) (Or.inl ⟨by rfl, fun w hSw => by obtain ⟨⟨a0, a1⟩, a2, a3, a4⟩ := hSw; go_simp⟩) hHeld ?_
        try simp only [Act.put, List.getElem_toArray, List.getElem_cons_succ, List.getElem_cons_zero, List.setIfInBounds_toArray, List.set_cons_zero, List.set_cons_succ]
        refine wpAnyH_take (i := 3) (v := .pointer (some ⟨w.heap.size, 1, none⟩)) rfl (by kernel_rfl) (by kernel_rfl) (by kernel_rfl) (fun _ _ _ h => h) (Or.inl ⟨by rfl, fun w hSw => by go_simp⟩) hHeld ?_
        try simp only [Act.put, List.getElem_toArray, List.getElem_cons_succ, List.getElem_cons_zero, List.setIfInBounds_toArray, List.set_cons_zero, List.set_cons_succ]
        refine wpAnyH_take (i := 4) (v := .slice (some ⟨bA, oA, none⟩) n c) rfl (by kernel_rfl) (by kernel_rfl) (by kernel_rfl) (fun _ _ _ h => h) (Or.inl ⟨by rfl, fun w hSw => by obtain ⟨⟨a0, a1⟩, a2, a3, a4⟩ := hSw; go_simp⟩) hHeld ?_
        try simp only [Act.put, List.getElem_toArray, List.getElem_cons_succ, List.getElem_cons_zero, List.setIfInBounds_toArray, List.set_cons_zero, List.set_cons_succ]
        refine wpAnyH_take (i := 6) (v := .pointer (some ⟨w.heap.size, 1, none⟩)) rfl (by kernel_rfl) (by kernel_rfl) (by kernel_rfl) (fun _ _ _ h => h) (Or.inl ⟨by rfl, fun w hSw => by go_simp⟩) hHeld ?_
        try simp only [Act.put, List.getElem_toArray, List.getElem_cons_succ, List.getElem_cons_zero, List.setIfInBounds_toArray, List.set_cons_zero, List.set_cons_succ]
        refine wpAnyH_take (i := 7) (v := .slice (some ⟨bA, oA, none⟩) n c) rfl (by kernel_rfl) (by kernel_rfl) (by kernel_rfl) (fun _ _ _ h => h) (Or.inl ⟨by rfl, fun w hSw => by obtain ⟨⟨a0, a1⟩, a2, a3, a4⟩ := hSw; go_simp⟩) hHeld ?_
        try simp only [Act.put, List.getElem_toArray, List.getElem_cons_succ, List.getElem_cons_zero, List.setIfInBounds_toArray, List.set_cons_zero, List.set_cons_succ]
        refine wpAnyH_take (i := 8) (v := .int .i64 a) rfl (by kernel_rfl) (by kernel_rfl) (by kernel_rfl) (fun _ _ _ h => h) (Or.inl ⟨by rfl, fun w hSw => by go_simp⟩) hHeld ?_
        try simp only [Act.put, List.getElem_toArray, List.getElem_cons_succ, List.getElem_cons_zero, List.setIfInBounds_toArray, List.set_cons_zero, List.set_cons_succ]
        refine wpAnyH_take (i := 9) (v := .pointer (some ⟨bA, oA + a * 3, none⟩)) rfl (by kernel_rfl) (by kernel_rfl) (by kernel_rfl) (fun _ _ _ h => h) (Or.inl ⟨by rfl, fun w hSw => by go_simp⟩) hHeld ?_
        try simp only [Act.put, List.getElem_toArray, List.getElem_cons_succ, List.getElem_cons_zero, List.setIfInBounds_toArray, List.set_cons_zero, List.set_cons_succ]
        refine wpAnyH_take (i := 10) (v := .agg #[.int .u8 p.kind, .int .i64 p.num, .int .i64 p.amt]) rfl (by kernel_rfl) (by kernel_rfl) (by kernel_rfl) (fun _ _ _ h => h) (Or.inl ⟨by rfl, fun w hSw => by obtain ⟨⟨a0, a1⟩, a2, a3, a4⟩ := hSw; go_simp⟩) hHeld ?_
        try simp only [Act.put, List.getElem_toArray, List.getElem_cons_succ, List.getElem_cons_zero, List.setIfInBounds_toArray, List.set_cons_zero, List.set_cons_succ]
        refine wpAnyH_ready (rs := [2, 11, 14]) (by kernel_rfl) (by simp) ?_
        refine (AllReadyH.cons rfl (fun K hK => ?_) (AllReadyH.cons rfl (fun K hK => ?_) (AllReadyH.cons rfl (fun K hK => ?_) AllReadyH.nil)))
        · obtain ⟨w21, hw21, gr21, bl21, -⟩ := alloc_step w9 (.cells #[] 44)
          have Y21 := below_step Y9 bl21
          obtain ⟨N21, hN21⟩ : ∃ N, w9.heap.size = N := ⟨_, rfl⟩
          have R21 : w21.ownsRow w8.heap.size 44 payR.k (.slice (some ⟨N21, 0, none⟩) 0 0) 0 (payR.cells []) := by rw [← hw21, ← hN21]; exact own_built payR w9 44 [] Y9.size (by unfold maxLen; decide)
          go_simp
          (try rw [hw21])
          (try rw [hN21])
          refine hK.out _ _ (ZK.out _ Y21) (fun hHeld => ?_)
          clear hK K
          try simp only [Act.put, List.getElem_toArray, List.getElem_cons_succ, List.getElem_cons_zero, List.setIfInBounds_toArray, List.set_cons_zero, List.set_cons_succ]
          refine wpAnyH_ready (rs := [5, 11, 14]) (by kernel_rfl) (by simp) ?_
          refine (AllReadyH.cons rfl (fun K hK => ?_) (AllReadyH.cons rfl (fun K hK => ?_) (AllReadyH.cons rfl (fun K hK => ?_) AllReadyH.nil)))
          · refine step_append_recs_g pay_recTy w21 (by rfl) _ _ (by rfl) w8.heap.size _ 0 [] (by rfl) R21 (some ⟨bA, oA, none⟩) n c l (by rfl) (SLK.out _ Y21) hnp hn3 Y21.size n hnz l rfl ?_
            intro g22 cap22 w22 R22 gr22 hat22 bl22
            have Y22 := Y21.trans bl22
            refine hK.out _ _ (ZK.out _ Y22) (fun hHeld => ?_)
            clear hK K
            try simp only [Act.put, List.getElem_toArray, List.getElem_cons_succ, List.getElem_cons_zero, List.setIfInBounds_toArray, List.set_cons_zero, List.set_cons_succ]
            refine wpAnyH_ready (rs := [11, 14]) (by kernel_rfl) (by simp) ?_
            refine (AllReadyH.cons rfl (fun K hK => ?_) (AllReadyH.cons rfl (fun K hK => ?_) AllReadyH.nil))
            · obtain ⟨w23, hw23, gr23, bl23, -⟩ := alloc_step w22 (.cells #[.int .u8 p.kind, .int .i64 p.num, .int .i64 p.amt] 44)
              have Y23 := below_step Y22 bl23
              obtain ⟨N23, hN23⟩ : ∃ N, w22.heap.size = N := ⟨_, rfl⟩
              have R23 := R22.kept gr23 (.inr (fun h => by cases h))
              have P23 : Box w23 N23 [.int .u8 p.kind, .int .i64 p.num, .int .i64 p.amt] := by rw [← hw23, ← hN23]; exact Box.new _ _ _
              go_simp
              (try rw [hw23])
              (try rw [hN23])
              refine hK.out _ _ (ZK.out _ Y23) (fun hHeld => ?_)
              clear hK K
              try simp only [Act.put, List.getElem_toArray, List.getElem_cons_succ, List.getElem_cons_zero, List.setIfInBounds_toArray, List.set_cons_zero, List.set_cons_succ]
              refine wpAnyH_ready (rs := [12, 14]) (by kernel_rfl) (by simp) ?_
              refine (AllReadyH.cons rfl (fun K hK => ?_) (AllReadyH.cons rfl (fun K hK => ?_) AllReadyH.nil))
              · refine step_append_rec pay_recTy w23 (by rfl) _ _ (by rfl) w8.heap.size _ n l p (by rfl) R23 N23 (by rfl) (fun j u hj => P23.c j hj) (by omega) Y23.size ?_
                intro g24 cap24 w24 R24 gr24 hat24 bl24
                have Y24 := Y23.trans bl24
                refine hK.out _ _ (ZK.out _ Y24) (fun hHeld => ?_)
                clear hK K
                try simp only [Act.put, List.getElem_toArray, List.getElem_cons_succ, List.getElem_cons_zero, List.setIfInBounds_toArray, List.set_cons_zero, List.set_cons_succ]
                refine wpAnyH_take (i := 13) (v := .agg #[.int .i64 per, .slice (some ⟨g24, 0, none⟩) (n + 1) cap24]) rfl (by kernel_rfl) (by kernel_rfl) (by kernel_rfl) (fun _ _ _ h => h) (Or.inl ⟨by rfl, fun w hSw => by go_simp⟩) hHeld ?_
                try simp only [Act.put, List.getElem_toArray, List.getElem_cons_succ, List.getElem_cons_zero, List.setIfInBounds_toArray, List.set_cons_zero, List.set_cons_succ]
                refine wpAnyH_ready (rs := [14]) (by kernel_rfl) (by simp) ?_
                refine (AllReadyH.cons rfl (fun K hK => ?_) AllReadyH.nil)
                · obtain ⟨w25, hw25, gr25, bl25, -⟩ := alloc_step w24 (.cells #[.int .i64 0, .slice none 0 0] 24)
                  have Y25 := below_step Y24 bl25
                  obtain ⟨N25, hN25⟩ : ∃ N, w24.heap.size = N := ⟨_, rfl⟩
                  have R25 := R24.kept gr25 (.inr (fun h => by cases h))
                  have F25 : Box w25 N25 [.int .i64 0, .slice none 0 0] := by rw [← hw25, ← hN25]; exact Box.new _ _ _
                  have kg25 : w8.heap.size ≤ N25 := by have := Y24.size; omega
                  have n2z_25 : g24 ≠ N25 := by have : g24 < w24.heap.size := (R24.lt g24 rfl).2; omega
                  go_simp
                  (try rw [hw25])
                  (try rw [hN25])
                  refine hK.out _ _ (ZK.out _ Y25) (fun hHeld => ?_)
                  clear hK K
                  try simp only [Act.put, List.getElem_toArray, List.getElem_cons_succ, List.getElem_cons_zero, List.setIfInBounds_toArray, List.set_cons_zero, List.set_cons_succ]
                  refine wpAnyH_ready (rs := [15]) (by kernel_rfl) (by simp) ?_
                  refine (AllReadyH.cons rfl (fun K hK => ?_) AllReadyH.nil)
                  · obtain ⟨c0_26, c1_26⟩ := c2 F25
                    obtain ⟨d0_26, d1_26⟩ := f2 F25
                    have sz26 := F25.1
                    obtain ⟨w26, hw26, F26, O26⟩ : ∃ wN, (w25.setCell ⟨N25, 0, none⟩ (.int .i64 per)).setCell ⟨N25, 1, none⟩ (.slice (some ⟨g24, 0, none⟩) (n + 1) cap24) = wN ∧ Box wN N25 [.int .i64 per, .slice (some ⟨g24, 0, none⟩) (n + 1) cap24] ∧ Only N25 w25 wN := ⟨_, rfl, (F25.set 0 (by simp) _).set 1 (by simp) _, ((Only.refl _ _).set 0 _).set 1 _⟩
                    have S26 : SlX payR w26 (some ⟨g24, 0, none⟩) (n + 1) (l ++ [p]) := by
                      obtain ⟨A', c', e, _, _, h⟩ := slr_of_own R25 (by rw [List.length_append, HLN.out]; rfl)
                      cases e; exact h.cells (fun b hb _ o => by
                        obtain ⟨off, e⟩ := hb
                        cases e
                        exact O26.cell _ n2z_25)
                    have kz26 : w8.heap.size ≤ N25 := kg25
                    have Y26 : Below w8.heap.size w8 w26 := O26.below kz26 Y25
                    have FN26 := Lib.hid (⟨F26, S26, Y26⟩ : _ ∧ _ ∧ _)
                    go_simp
                    (try rw [hw26])
                    refine hK.out _ _ (ZK.out _ Y26) (fun hHeld => ?_)
                    clear hK K
                    try simp only [Act.put, List.getElem_toArray, List.getElem_cons_succ, List.getElem_cons_zero, List.setIfInBounds_toArray, List.set_cons_zero, List.set_cons_succ]
                    refine wpAnyH_done (by kernel_rfl) ?_ _
                    clear hHeld
                    go_wp2_with fail
                    go_meet
                    exact ⟨_, _, _, rfl, FN26⟩
              · obtain ⟨w27, hw27, gr27, bl27, -⟩ := alloc_step w23 (.cells #[.int .i64 0, .slice none 0 0] 24)
                have Y27 := below_step Y23 bl27
                obtain ⟨N27, hN27⟩ : ∃ N, w23.heap.size = N := ⟨_, rfl⟩
                have P27 := box_grown P23 gr27 (fun h => by cases h)
                have R27 := R23.kept gr27 (.inr (fun h => by cases h))
                have F27 : Box w27 N27 [.int .i64 0, .slice none 0 0] := by rw [← hw27, ← hN27]; exact Box.new _ _ _
                have kg27 : w8.heap.size ≤ N27 := by have := Y23.size; omega
                have n1z_27 : g22 ≠ N27 := by have : g22 < w23.heap.size := (R23.lt g22 rfl).2; omega
                go_simp
                (try rw [hw27])
                (try rw [hN27])
                refine hK.out _ _ (ZK.out _ Y27) (fun hHeld => ?_)
                clear hK K
                try simp only [Act.put, List.getElem_toArray, List.getElem_cons_succ, List.getElem_cons_zero, List.setIfInBounds_toArray, List.set_cons_zero, List.set_cons_succ]
                refine wpAnyH_ready (rs := [12]) (by kernel_rfl) (by simp) ?_
                refine (AllReadyH.cons rfl (fun K hK => ?_) AllReadyH.nil)
                · refine step_append_rec pay_recTy w27 (by rfl) _ _ (by rfl) w8.heap.size _ n l p (by rfl) R27 N23 (by rfl) (fun j u hj => P27.c j hj) (by omega) Y27.size ?_
                  intro g28 cap28 w28 R28 gr28 hat28 bl28
                  have Y28 := Y27.trans bl28
                  have F28 := box_grown F27 gr28 (fun h => n1z_27 (Option.some.inj h))
                  have n2z_28 : g28 ≠ N27 := by
                    rcases hat28 with h | h
                    · have h2 : some g22 = some g28 := h
                      rw [← Option.some.inj h2]; exact n1z_27
                    · have := F27.1; omega
                  refine hK.out _ _ (ZK.out _ Y28) (fun hHeld => ?_)
                  clear hK K
                  try simp only [Act.put, List.getElem_toArray, List.getElem_cons_succ, List.getElem_cons_zero, List.setIfInBounds_toArray, List.set_cons_zero, List.set_cons_succ]
                  refine wpAnyH_take (i := 13) (v := .agg #[.int .i64 per, .slice (some ⟨g28, 0, none⟩) (n + 1) cap28]) rfl (by kernel_rfl) (by kernel_rfl) (by kernel_rfl) (fun _ _ _ h => h) (Or.inl ⟨by rfl, fun w hSw => by go_simp⟩) hHeld ?_
                  try simp only [Act.put, List.getElem_toArray, List.getElem_cons_succ, List.getElem_cons_zero, List.setIfInBounds_toArray, List.set_cons_zero, List.set_cons_succ]
                  refine wpAnyH_ready (rs := [15]) (by kernel_rfl) (by simp) ?_
                  refine (AllReadyH.cons rfl (fun K hK => ?_) AllReadyH.nil)
                  · obtain ⟨c0_29, c1_29⟩ := c2 F28
                    obtain ⟨d0_29, d1_29⟩ := f2 F28
                    have sz29 := F28.1
                    obtain ⟨w29, hw29, F29, O29⟩ : ∃ wN, (w28.setCell ⟨N27, 0, none⟩ (.int .i64 per)).setCell ⟨N27, 1, none⟩ (.slice (some ⟨g28, 0, none⟩) (n + 1) cap28) = wN ∧ Box wN N27 [.int .i64 per, .slice (some ⟨g28, 0, none⟩) (n + 1) cap28] ∧ Only N27 w28 wN := ⟨_, rfl, (F28.set 0 (by simp) _).set 1 (by simp) _, ((Only.refl _ _).set 0 _).set 1 _⟩
                    have S29 : SlX payR w29 (some ⟨g28, 0, none⟩) (n + 1) (l ++ [p]) := by
                      obtain ⟨A', c', e, _, _, h⟩ := slr_of_own R28 (by rw [List.length_append, HLN.out]; rfl)
                      cases e; exact h.cells (fun b hb _ o => by
                        obtain ⟨off, e⟩ := hb
                        cases e
                        exact O29.cell _ n2z_28)
                    have kz29 : w8.heap.size ≤ N27 := kg27
                    have Y29 : Below w8.heap.size w8 w29 := O29.below kz29 Y28
                    have FN29 := Lib.hid (⟨F29, S29, Y29⟩ : _ ∧ _ ∧ _)
                    go_simp
                    (try rw [hw29])
                    refine hK.out _ _ (ZK.out _ Y29) (fun hHeld => ?_)
                    clear hK K
                    try simp only [Act.put, List.getElem_toArray, List.getElem_cons_succ, List.getElem_cons_zero, List.setIfInBounds_toArray, List.set_cons_zero, List.set_cons_succ]
                    refine wpAnyH_done (by kernel_rfl) ?_ _
                    clear hHeld
                    go_wp2_with fail
                    go_meet
                    exact ⟨_, _, _, rfl, FN29⟩
            · obtain ⟨w30, hw30, gr30, bl30, -⟩ := alloc_step w22 (.cells #[.int .i64 0, .slice none 0 0] 24)
              have Y30 := below_step Y22 bl30
              obtain ⟨N30, hN30⟩ : ∃ N, w22.heap.size = N := ⟨_, rfl⟩
              have R30 := R22.kept gr30 (.inr (fun h => by cases h))
              have F30 : Box w30 N30 [.int .i64 0, .slice none 0 0] := by rw [← hw30, ← hN30]; exact Box.new _ _ _
              have kg30 : w8.heap.size ≤ N30 := by have := Y22.size; omega
              have n1z_30 : g22 ≠ N30 := by have : g22 < w22.heap.size := (R22.lt g22 rfl).2; omega
              go_simp
              (try rw [hw30])
              (try rw [hN30])
              refine hK.out _ _ (ZK.out _ Y30) (fun hHeld => ?_)
              clear hK K
              try simp only [Act.put, List.getElem_toArray, List.getElem_cons_succ, List.getElem_cons_zero, List.setIfInBounds_toArray, List.set_cons_zero, List.set_cons_succ]
              refine wpAnyH_ready (rs := [11]) (by kernel_rfl) (by simp) ?_
              refine (AllReadyH.cons rfl (fun K hK => ?_) AllReadyH.nil)
              · obtain ⟨w31, hw31, gr31, bl31, -⟩ := alloc_step w30 (.cells #[.int .u8 p.kind, .int .i64 p.num, .int .i64 p.amt] 44)
                have Y31 := below_step Y30 bl31
                obtain ⟨N31, hN31⟩ : ∃ N, w30.heap.size = N := ⟨_, rfl⟩
                have F31 := box_grown F30 gr31 (fun h => by cases h)
                have R31 := R30.kept gr31 (.inr (fun h => by cases h))
                have P31 : Box w31 N31 [.int .u8 p.kind, .int .i64 p.num, .int .i64 p.amt] := by rw [← hw31, ← hN31]; exact Box.new _ _ _
                go_simp
                (try rw [hw31])
                (try rw [hN31])
                refine hK.out _ _ (ZK.out _ Y31) (fun hHeld => ?_)
                clear hK K
                try simp only [Act.put, List.getElem_toArray, List.getElem_cons_succ, List.getElem_cons_zero, List.setIfInBounds_toArray, List.set_cons_zero, List.set_cons_succ]
                refine wpAnyH_ready (rs := [12]) (by kernel_rfl) (by simp) ?_
                refine (AllReadyH.cons rfl (fun K hK => ?_) AllReadyH.nil)
                · refine step_append_rec pay_recTy w31 (by rfl) _ _ (by rfl) w8.heap.size _ n l p (by rfl) R31 N31 (by rfl) (fun j u hj => P31.c j hj) (by omega) Y31.size ?_
                  intro g32 cap32 w32 R32 gr32 hat32 bl32
                  have Y32 := Y31.trans bl32
                  have F32 := box_grown F31 gr32 (fun h => n1z_30 (Option.some.inj h))
                  have n2z_32 : g32 ≠ N30 := by
                    rcases hat32 with h | h
                    · have h2 : some g22 = some g32 := h
                      rw [← Option.some.inj h2]; exact n1z_30
                    · have := F31.1; omega
                  refine hK.out _ _ (ZK.out _ Y32) (fun hHeld => ?_)
                  clear hK K
                  try simp only [Act.put, List.getElem_toArray, List.getElem_cons_succ, List.getElem_cons_zero, List.setIfInBounds_toArray, List.set_cons_zero, List.set_cons_succ]
                  refine wpAnyH_take (i := 13) (v := .agg #[.int .i64 per, .slice (some ⟨g32, 0, none⟩) (n + 1) cap32]) rfl (by kernel_rfl) (by kernel_rfl) (by kernel_rfl) (fun _ _ _ h => h) (Or.inl ⟨by rfl, fun w hSw => by go_simp⟩) hHeld ?_
                  try simp only [Act.put, List.getElem_toArray, List.getElem_cons_succ, List.getElem_cons_zero, List.setIfInBounds_toArray, List.set_cons_zero, List.set_cons_succ]
                  refine wpAnyH_ready (rs := [15]) (by kernel_rfl) (by simp) ?_
                  refine (AllReadyH.cons rfl (fun K hK => ?_) AllReadyH.nil)
                  · obtain ⟨c0_33, c1_33⟩ := c2 F32
                    obtain ⟨d0_33, d1_33⟩ := f2 F32
                    have sz33 := F32.1
                    obtain ⟨w33, hw33, F33, O33⟩ : ∃ wN, (w32.setCell ⟨N30, 0, none⟩ (.int .i64 per)).setCell ⟨N30, 1, none⟩ (.slice (some ⟨g32, 0, none⟩) (n + 1) cap32) = wN ∧ Box wN N30 [.int .i64 per, .slice (some ⟨g32, 0, none⟩) (n + 1) cap32] ∧ Only N30 w32 wN := ⟨_, rfl, (F32.set 0 (by simp) _).set 1 (by simp) _, ((Only.refl _ _).set 0 _).set 1 _⟩
                    have S33 : SlX payR w33 (some ⟨g32, 0, none⟩) (n + 1) (l ++ [p]) := by
                      obtain ⟨A', c', e, _, _, h⟩ := slr_of_own R32 (by rw [List.length_append, HLN.out]; rfl)
                      cases e; exact h.cells (fun b hb _ o => by
                        obtain ⟨off, e⟩ := hb
                        cases e
                        exact O33.cell _ n2z_32)
                    have kz33 : w8.heap.size ≤ N30 := kg30
                    have Y33 : Below w8.heap.size w8 w33 := O33.below kz33 Y32
                    have FN33 := Lib.hid (⟨F33, S33, Y33⟩ : _ ∧ _ ∧ _)
                    go_simp
                    (try rw [hw33])
                    refine hK.out _ _ (ZK.out _ Y33) (fun hHeld => ?_)
                    clear hK K
                    try simp only [Act.put, List.getElem_toArray, List.getElem_cons_succ, List.getElem_cons_zero, List.setIfInBounds_toArray, List.set_cons_zero, List.set_cons_succ]
                    refine wpAnyH_done (by kernel_rfl) ?_ _
                    clear hHeld
                    go_wp2_with fail
                    go_meet
                    exact ⟨_, _, _, rfl, FN33⟩
          · obtain ⟨w34, hw34, gr34, bl34, -⟩ := alloc_step w21 (.cells #[.int .u8 p.kind, .int .i64 p.num, .int .i64 p.amt] 44)
            have Y34 := below_step Y21 bl34
            obtain ⟨N34, hN34⟩ : ∃ N, w21.heap.size = N := ⟨_, rfl⟩
            have R34 := R21.kept gr34 (.inr (fun h => by cases h))
            have P34 : Box w34 N34 [.int .u8 p.kind, .int .i64 p.num, .int .i64 p.amt] := by rw [← hw34, ← hN34]; exact Box.new _ _ _
            have n01_34 : N21 ≠ N34 := by have : N21 < w21.heap.size := (R21.lt N21 rfl).2; omega
            go_simp
            (try rw [hw34])
            (try rw [hN34])
            refine hK.out _ _ (ZK.out _ Y34) (fun hHeld => ?_)
            clear hK K
            try simp only [Act.put, List.getElem_toArray, List.getElem_cons_succ, List.getElem_cons_zero, List.setIfInBounds_toArray, List.set_cons_zero, List.set_cons_succ]
            refine wpAnyH_ready (rs := [5, 14]) (by kernel_rfl) (by simp) ?_
            refine (AllReadyH.cons rfl (fun K hK => ?_) (AllReadyH.cons rfl (fun K hK => ?_) AllReadyH.nil))
            · refine step_append_recs_g pay_recTy w34 (by rfl) _ _ (by rfl) w8.heap.size _ 0 [] (by rfl) R34 (some ⟨bA, oA, none⟩) n c l (by rfl) (SLK.out _ Y34) hnp hn3 Y34.size n hnz l rfl ?_
              intro g35 cap35 w35 R35 gr35 hat35 bl35
              have Y35 := Y34.trans bl35
              have P35 := box_grown P34 gr35 (fun h => n01_34 (Option.some.inj h))
              refine hK.out _ _ (ZK.out _ Y35) (fun hHeld => ?_)
              clear hK K
              try simp only [Act.put, List.getElem_toArray, List.getElem_cons_succ, List.getElem_cons_zero, List.setIfInBounds_toArray, List.set_cons_zero, List.set_cons_succ]
              refine wpAnyH_ready (rs := [12, 14]) (by kernel_rfl) (by simp) ?_
              refine (AllReadyH.cons rfl (fun K hK => ?_) (AllReadyH.cons rfl (fun K hK => ?_) AllReadyH.nil))
              · refine step_append_rec pay_recTy w35 (by rfl) _ _ (by rfl) w8.heap.size _ n l p (by rfl) R35 N34 (by rfl) (fun j u hj => P35.c j hj) (by omega) Y35.size ?_
                intro g36 cap36 w36 R36 gr36 hat36 bl36
                have Y36 := Y35.trans bl36
                refine hK.out _ _ (ZK.out _ Y36) (fun hHeld => ?_)
                clear hK K
                try simp only [Act.put, List.getElem_toArray, List.getElem_cons_succ, List.getElem_cons_zero, List.setIfInBounds_toArray, List.set_cons_zero, List.set_cons_succ]
                refine wpAnyH_take (i := 13) (v := .agg #[.int .i64 per, .slice (some ⟨g36, 0, none⟩) (n + 1) cap36]) rfl (by kernel_rfl) (by kernel_rfl) (by kernel_rfl) (fun _ _ _ h => h) (Or.inl ⟨by rfl, fun w hSw => by go_simp⟩) hHeld ?_
                try simp only [Act.put, List.getElem_toArray, List.getElem_cons_succ, List.getElem_cons_zero, List.setIfInBounds_toArray, List.set_cons_zero, List.set_cons_succ]
                refine wpAnyH_ready (rs := [14]) (by kernel_rfl) (by simp) ?_
                refine (AllReadyH.cons rfl (fun K hK => ?_) AllReadyH.nil)
                · obtain ⟨w37, hw37, gr37, bl37, -⟩ := alloc_step w36 (.cells #[.int .i64 0, .slice none 0 0] 24)
                  have Y37 := below_step Y36 bl37
                  obtain ⟨N37, hN37⟩ : ∃ N, w36.heap.size = N := ⟨_, rfl⟩
                  have R37 := R36.kept gr37 (.inr (fun h => by cases h))
                  have F37 : Box w37 N37 [.int .i64 0, .slice none 0 0] := by rw [← hw37, ← hN37]; exact Box.new _ _ _
                  have kg37 : w8.heap.size ≤ N37 := by have := Y36.size; omega
                  have n2z_37 : g36 ≠ N37 := by have : g36 < w36.heap.size := (R36.lt g36 rfl).2; omega
                  go_simp
                  (try rw [hw37])
                  (try rw [hN37])
                  refine hK.out _ _ (ZK.out _ Y37) (fun hHeld => ?_)
                  clear hK K
                  try simp only [Act.put, List.getElem_toArray, List.getElem_cons_succ, List.getElem_cons_zero, List.setIfInBounds_toArray, List.set_cons_zero, List.set_cons_succ]
                  refine wpAnyH_ready (rs := [15]) (by kernel_rfl) (by simp) ?_
                  refine (AllReadyH.cons rfl (fun K hK => ?_) AllReadyH.nil)
                  · obtain ⟨c0_38, c1_38⟩ := c2 F37
                    obtain ⟨d0_38, d1_38⟩ := f2 F37
                    have sz38 := F37.1
                    obtain ⟨w38, hw38, F38, O38⟩ : ∃ wN, (w37.setCell ⟨N37, 0, none⟩ (.int .i64 per)).setCell ⟨N37, 1, none⟩ (.slice (some ⟨g36, 0, none⟩) (n + 1) cap36) = wN ∧ Box wN N37 [.int .i64 per, .slice (some ⟨g36, 0, none⟩) (n + 1) cap36] ∧ Only N37 w37 wN := ⟨_, rfl, (F37.set 0 (by simp) _).set 1 (by simp) _, ((Only.refl _ _).set 0 _).set 1 _⟩
                    have S38 : SlX payR w38 (some ⟨g36, 0, none⟩) (n + 1) (l ++ [p]) := by
                      obtain ⟨A', c', e, _, _, h⟩ := slr_of_own R37 (by rw [List.length_append, HLN.out]; rfl)
                      cases e; exact h.cells (fun b hb _ o => by
                        obtain ⟨off, e⟩ := hb
                        cases e
                        exact O38.cell _ n2z_37)
                    have kz38 : w8.heap.size ≤ N37 := kg37
                    have Y38 : Below w8.heap.size w8 w38 := O38.below kz38 Y37
                    have FN38 := Lib.hid (⟨F38, S38, Y38⟩ : _ ∧ _ ∧ _)
                    go_simp
                    (try rw [hw38])
                    refine hK.out _ _ (ZK.out _ Y38) (fun hHeld => ?_)
                    clear hK K
                    try simp only [Act.put, List.getElem_toArray, List.getElem_cons_succ, List.getElem_cons_zero, List.setIfInBounds_toArray, List.set_cons_zero, List.set_cons_succ]
                    refine wpAnyH_done (by kernel_rfl) ?_ _
                    clear hHeld
                    go_wp2_with fail
                    go_meet
                    exact ⟨_, _, _, rfl, FN38⟩
              · obtain ⟨w39, hw39, gr39, bl39, -⟩ := alloc_step w35 (.cells #[.int .i64 0, .slice none 0 0] 24)
                have Y39 := below_step Y35 bl39
                obtain ⟨N39, hN39⟩ : ∃ N, w35.heap.size = N := ⟨_, rfl⟩
                have P39 := box_grown P35 gr39 (fun h => by cases h)
                have R39 := R35.kept gr39 (.inr (fun h => by cases h))
                have F39 : Box w39 N39 [.int .i64 0, .slice none 0 0] := by rw [← hw39, ← hN39]; exact Box.new _ _ _
                have kg39 : w8.heap.size ≤ N39 := by have := Y35.size; omega
                have n1z_39 : g35 ≠ N39 := by have : g35 < w35.heap.size := (R35.lt g35 rfl).2; omega
                go_simp
                (try rw [hw39])
                (try rw [hN39])
                refine hK.out _ _ (ZK.out _ Y39) (fun hHeld => ?_)
                clear hK K
                try simp only [Act.put, List.getElem_toArray, List.getElem_cons_succ, List.getElem_cons_zero, List.setIfInBounds_toArray, List.set_cons_zero, List.set_cons_succ]
                refine wpAnyH_ready (rs := [12]) (by kernel_rfl) (by simp) ?_
                refine (AllReadyH.cons rfl (fun K hK => ?_) AllReadyH.nil)
                · refine step_append_rec pay_recTy w39 (by rfl) _ _ (by rfl) w8.heap.size _ n l p (by rfl) R39 N34 (by rfl) (fun j u hj => P39.c j hj) (by omega) Y39.size ?_
                  intro g40 cap40 w40 R40 gr40 hat40 bl40
                  have Y40 := Y39.trans bl40
                  have F40 := box_grown F39 gr40 (fun h => n1z_39 (Option.some.inj h))
                  have n2z_40 : g40 ≠ N39 := by
                    rcases hat40 with h | h
                    · have h2 : some g35 = some g40 := h
                      rw [← Option.some.inj h2]; exact n1z_39
                    · have := F39.1; omega
                  refine hK.out _ _ (ZK.out _ Y40) (fun hHeld => ?_)
                  clear hK K
                  try simp only [Act.put, List.getElem_toArray, List.getElem_cons_succ, List.getElem_cons_zero, List.setIfInBounds_toArray, List.set_cons_zero, List.set_cons_succ]
                  refine wpAnyH_take (i := 13) (v := .agg #[.int .i64 per, .slice (some ⟨g40, 0, none⟩) (n + 1) cap40]) rfl (by kernel_rfl) (by kernel_rfl) (by kernel_rfl) (fun _ _ _ h => h) (Or.inl ⟨by rfl, fun w hSw => by go_simp⟩) hHeld ?_
                  try simp only [Act.put, List.getElem_toArray, List.getElem_cons_succ, List.getElem_cons_zero, List.setIfInBounds_toArray, List.set_cons_zero, List.set_cons_succ]
                  refine wpAnyH_ready (rs := [15]) (by kernel_rfl) (by simp) ?_
                  refine (AllReadyH.cons rfl (fun K hK => ?_) AllReadyH.nil)
                  · obtain ⟨c0_41, c1_41⟩ := c2 F40
                    obtain ⟨d0_41, d1_41⟩ := f2 F40
                    have sz41 := F40.1
                    obtain ⟨w41, hw41, F41, O41⟩ : ∃ wN, (w40.setCell ⟨N39, 0, none⟩ (.int .i64 per)).setCell ⟨N39, 1, none⟩ (.slice (some ⟨g40, 0, none⟩) (n + 1) cap40) = wN ∧ Box wN N39 [.int .i64 per, .slice (some ⟨g40, 0, none⟩) (n + 1) cap40] ∧ Only N39 w40 wN := ⟨_, rfl, (F40.set 0 (by simp) _).set 1 (by simp) _, ((Only.refl _ _).set 0 _).set 1 _⟩
                    have S41 : SlX payR w41 (some ⟨g40, 0, none⟩) (n + 1) (l ++ [p]) := by
                      obtain ⟨A', c', e, _, _, h⟩ := slr_of_own R40 (by rw [List.length_append, HLN.out]; rfl)
                      cases e; exact h.cells (fun b hb _ o => by
                        obtain ⟨off, e⟩ := hb
                        cases e
                        exact O41.cell _ n2z_40)
                    have kz41 : w8.heap.size ≤ N39 := kg39
                    have Y41 : Below w8.heap.size w8 w41 := O41.below kz41 Y40
                    have FN41 := Lib.hid (⟨F41, S41, Y41⟩ : _ ∧ _ ∧ _)
                    go_simp
                    (try rw [hw41])
                    refine hK.out _ _ (ZK.out _ Y41) (fun hHeld => ?_)
                    clear hK K
                    try simp only [Act.put, List.getElem_toArray, List.getElem_cons_succ, List.getElem_cons_zero, List.setIfInBounds_toArray, List.set_cons_zero, List.set_cons_succ]
                    refine wpAnyH_done (by kernel_rfl) ?_ _
                    clear hHeld
                    go_wp2_with fail
                    go_meet
                    exact ⟨_, _, _, rfl, FN41⟩
            · obtain ⟨w42, hw42, gr42, bl42, -⟩ := alloc_step w34 (.cells #[.int .i64 0, .slice none 0 0] 24)
              have Y42 := below_step Y34 bl42
              obtain ⟨N42, hN42⟩ : ∃ N, w34.heap.size = N := ⟨_, rfl⟩
              have P42 := box_grown P34 gr42 (fun h => by cases h)
              have R42 := R34.kept gr42 (.inr (fun h => by cases h))
              have F42 : Box w42 N42 [.int .i64 0, .slice none 0 0] := by rw [← hw42, ← hN42]; exact Box.new _ _ _
              have kg42 : w8.heap.size ≤ N42 := by have := Y34.size; omega
              have n0z_42 : N21 ≠ N42 := by have : N21 < w34.heap.size := (R34.lt N21 rfl).2; omega
              go_simp
              (try rw [hw42])
              (try rw [hN42])
              refine hK.out _ _ (ZK.out _ Y42) (fun hHeld => ?_)
              clear hK K
              try simp only [Act.put, List.getElem_toArray, List.getElem_cons_succ, List.getElem_cons_zero, List.setIfInBounds_toArray, List.set_cons_zero, List.set_cons_succ]
              refine wpAnyH_ready (rs := [5]) (by kernel_rfl) (by simp) ?_
              refine (AllReadyH.cons rfl (fun K hK => ?_) AllReadyH.nil)
              · refine step_append_recs_g pay_recTy w42 (by rfl) _ _ (by rfl) w8.heap.size _ 0 [] (by rfl) R42 (some ⟨bA, oA, none⟩) n c l (by rfl) (SLK.out _ Y42) hnp hn3 Y42.size n hnz l rfl ?_
                intro g43 cap43 w43 R43 gr43 hat43 bl43
                have Y43 := Y42.trans bl43
                have P43 := box_grown P42 gr43 (fun h => n01_34 (Option.some.inj h))
                have F43 := box_grown F42 gr43 (fun h => n0z_42 (Option.some.inj h))
                have n1z_43 : g43 ≠ N42 := by
                  rcases hat43 with h | h
                  · have h2 : some N21 = some g43 := h
                    rw [← Option.some.inj h2]; exact n0z_42
                  · have := F42.1; omega
                refine hK.out _ _ (ZK.out _ Y43) (fun hHeld => ?_)
                clear hK K
                try simp only [Act.put, List.getElem_toArray, List.getElem_cons_succ, List.getElem_cons_zero, List.setIfInBounds_toArray, List.set_cons_zero, List.set_cons_succ]
                refine wpAnyH_ready (rs := [12]) (by kernel_rfl) (by simp) ?_
                refine (AllReadyH.cons rfl (fun K hK => ?_) AllReadyH.nil)
                · refine step_append_rec pay_recTy w43 (by rfl) _ _ (by rfl) w8.heap.size _ n l p (by rfl) R43 N34 (by rfl) (fun j u hj => P43.c j hj) (by omega) Y43.size ?_
                  intro g44 cap44 w44 R44 gr44 hat44 bl44
                  have Y44 := Y43.trans bl44
                  have F44 := box_grown F43 gr44 (fun h => n1z_43 (Option.some.inj h))
                  have n2z_44 : g44 ≠ N42 := by
                    rcases hat44 with h | h
                    · have h2 : some g43 = some g44 := h
                      rw [← Option.some.inj h2]; exact n1z_43
                    · have := F43.1; omega
                  refine hK.out _ _ (ZK.out _ Y44) (fun hHeld => ?_)
                  clear hK K
                  try simp only [Act.put, List.getElem_toArray, List.getElem_cons_succ, List.getElem_cons_zero, List.setIfInBounds_toArray, List.set_cons_zero, List.set_cons_succ]
                  refine wpAnyH_take (i := 13) (v := .agg #[.int .i64 per, .slice (some ⟨g44, 0, none⟩) (n + 1) cap44]) rfl (by kernel_rfl) (by kernel_rfl) (by kernel_rfl) (fun _ _ _ h => h) (Or.inl ⟨by rfl, fun w hSw => by go_simp⟩) hHeld ?_
                  try simp only [Act.put, List.getElem_toArray, List.getElem_cons_succ, List.getElem_cons_zero, List.setIfInBounds_toArray, List.set_cons_zero, List.set_cons_succ]
                  refine wpAnyH_ready (rs := [15]) (by kernel_rfl) (by simp) ?_
                  refine (AllReadyH.cons rfl (fun K hK => ?_) AllReadyH.nil)
                  · obtain ⟨c0_45, c1_45⟩ := c2 F44
                    obtain ⟨d0_45, d1_45⟩ := f2 F44
                    have sz45 := F44.1
                    obtain ⟨w45, hw45, F45, O45⟩ : ∃ wN, (w44.setCell ⟨N42, 0, none⟩ (.int .i64 per)).setCell ⟨N42, 1, none⟩ (.slice (some ⟨g44, 0, none⟩) (n + 1) cap44) = wN ∧ Box wN N42 [.int .i64 per, .slice (some ⟨g44, 0, none⟩) (n + 1) cap44] ∧ Only N42 w44 wN := ⟨_, rfl, (F44.set 0 (by simp) _).set 1 (by simp) _, ((Only.refl _ _).set 0 _).set 1 _⟩
                    have S45 : SlX payR w45 (some ⟨g44, 0, none⟩) (n + 1) (l ++ [p]) := by
                      obtain ⟨A', c', e, _, _, h⟩ := slr_of_own R44 (by rw [List.length_append, HLN.out]; rfl)
                      cases e; exact h.cells (fun b hb _ o => by
                        obtain ⟨off, e⟩ := hb
                        cases e
                        exact O45.cell _ n2z_44)
                    have kz45 : w8.heap.size ≤ N42 := kg42
                    have Y45 : Below w8.heap.size w8 w45 := O45.below kz45 Y44
                    have FN45 := Lib.hid (⟨F45, S45, Y45⟩ : _ ∧ _ ∧ _)
                    go_simp
                    (try rw [hw45])
                    refine hK.out _ _ (ZK.out _ Y45) (fun hHeld => ?_)
                    clear hK K
                    try simp only [Act.put, List.getElem_toArray, List.getElem_cons_succ, List.getElem_cons_zero, List.setIfInBounds_toArray, List.set_cons_zero, List.set_cons_succ]
                    refine wpAnyH_done (by kernel_rfl) ?_ _
                    clear hHeld
                    go_wp2_with fail
                    go_meet
                    exact ⟨_, _, _, rfl, FN45⟩
          · obtain ⟨w46, hw46, gr46, bl46, -⟩ := alloc_step w21 (.cells #[.int .i64 0, .slice none 0 0] 24)
            have Y46 := below_step Y21 bl46
            obtain ⟨N46, hN46⟩ : ∃ N, w21.heap.size = N := ⟨_, rfl⟩
            have R46 := R21.kept gr46 (.inr (fun h => by cases h))
            have F46 : Box w46 N46 [.int .i64 0, .slice none 0 0] := by rw [← hw46, ← hN46]; exact Box.new _ _ _
            have kg46 : w8.heap.size ≤ N46 := by have := Y21.size; omega
            have n0z_46 : N21 ≠ N46 := by have : N21 < w21.heap.size := (R21.lt N21 rfl).2; omega
            go_simp
            (try rw [hw46])
            (try rw [hN46])
            refine hK.out _ _ (ZK.out _ Y46) (fun hHeld => ?_)
            clear hK K
            try simp only [Act.put, List.getElem_toArray, List.getElem_cons_succ, List.getElem_cons_zero, List.setIfInBounds_toArray, List.set_cons_zero, List.set_cons_succ]
            refine wpAnyH_ready (rs := [5, 11]) (by kernel_rfl) (by simp) ?_
            refine (AllReadyH.cons rfl (fun K hK => ?_) (AllReadyH.cons rfl (fun K hK => ?_) AllReadyH.nil))
            · refine step_append_recs_g pay_recTy w46 (by rfl) _ _ (by rfl) w8.heap.size _ 0 [] (by rfl) R46 (some ⟨bA, oA, none⟩) n c l (by rfl) (SLK.out _ Y46) hnp hn3 Y46.size n hnz l rfl ?_
              intro g47 cap47 w47 R47 gr47 hat47 bl47
              have Y47 := Y46.trans bl47
              have F47 := box_grown F46 gr47 (fun h => n0z_46 (Option.some.inj h))
              have n1z_47 : g47 ≠ N46 := by
                rcases hat47 with h | h
                · have h2 : some N21 = some g47 := h
                  rw [← Option.some.inj h2]; exact n0z_46
                · have := F46.1; omega
              refine hK.out _ _ (ZK.out _ Y47) (fun hHeld => ?_)
              clear hK K
              try simp only [Act.put, List.getElem_toArray, List.getElem_cons_succ, List.getElem_cons_zero, List.setIfInBounds_toArray, List.set_cons_zero, List.set_cons_succ]
              refine wpAnyH_ready (rs := [11]) (by kernel_rfl) (by simp) ?_
              refine (AllReadyH.cons rfl (fun K hK => ?_) AllReadyH.nil)
              · obtain ⟨w48, hw48, gr48, bl48, -⟩ := alloc_step w47 (.cells #[.int .u8 p.kind, .int .i64 p.num, .int .i64 p.amt] 44)
                have Y48 := below_step Y47 bl48
                obtain ⟨N48, hN48⟩ : ∃ N, w47.heap.size = N := ⟨_, rfl⟩
                have F48 := box_grown F47 gr48 (fun h => by cases h)
                have R48 := R47.kept gr48 (.inr (fun h => by cases h))
                have P48 : Box w48 N48 [.int .u8 p.kind, .int .i64 p.num, .int .i64 p.amt] := by rw [← hw48, ← hN48]; exact Box.new _ _ _
                go_simp
                (try rw [hw48])
                (try rw [hN48])
                refine hK.out _ _ (ZK.out _ Y48) (fun hHeld => ?_)
                clear hK K
                try simp only [Act.put, List.getElem_toArray, List.getElem_cons_succ, List.getElem_cons_zero, List.setIfInBounds_toArray, List.set_cons_zero, List.set_cons_succ]
                refine wpAnyH_ready (rs := [12]) (by kernel_rfl) (by simp) ?_
                refine (AllReadyH.cons rfl (fun K hK => ?_) AllReadyH.nil)
                · refine step_append_rec pay_recTy w48 (by rfl) _ _ (by rfl) w8.heap.size _ n l p (by rfl) R48 N48 (by rfl) (fun j u hj => P48.c j hj) (by omega) Y48.size ?_
                  intro g49 cap49 w49 R49 gr49 hat49 bl49
                  have Y49 := Y48.trans bl49
                  have F49 := box_grown F48 gr49 (fun h => n1z_47 (Option.some.inj h))
                  have n2z_49 : g49 ≠ N46 := by
                    rcases hat49 with h | h
                    · have h2 : some g47 = some g49 := h
                      rw [← Option.some.inj h2]; exact n1z_47
                    · have := F48.1; omega
                  refine hK.out _ _ (ZK.out _ Y49) (fun hHeld => ?_)
                  clear hK K
                  try simp only [Act.put, List.getElem_toArray, List.getElem_cons_succ, List.getElem_cons_zero, List.setIfInBounds_toArray, List.set_cons_zero, List.set_cons_succ]
                  refine wpAnyH_take (i := 13) (v := .agg #[.int .i64 per, .slice (some ⟨g49, 0, none⟩) (n + 1) cap49]) rfl (by kernel_rfl) (by kernel_rfl) (by kernel_rfl) (fun _ _ _ h => h) (Or.inl ⟨by rfl, fun w hSw => by go_simp⟩) hHeld ?_
                  try simp only [Act.put, List.getElem_toArray, List.getElem_cons_succ, List.getElem_cons_zero, List.setIfInBounds_toArray, List.set_cons_zero, List.set_cons_succ]
                  refine wpAnyH_ready (rs := [15]) (by kernel_rfl) (by simp) ?_
                  refine (AllReadyH.cons rfl (fun K hK => ?_) AllReadyH.nil)
                  · obtain ⟨c0_50, c1_50⟩ := c2 F49
                    obtain ⟨d0_50, d1_50⟩ := f2 F49
                    have sz50 := F49.1
                    obtain ⟨w50, hw50, F50, O50⟩ : ∃ wN, (w49.setCell ⟨N46, 0, none⟩ (.int .i64 per)).setCell ⟨N46, 1, none⟩ (.slice (some ⟨g49, 0, none⟩) (n + 1) cap49) = wN ∧ Box wN N46 [.int .i64 per, .slice (some ⟨g49, 0, none⟩) (n + 1) cap49] ∧ Only N46 w49 wN := ⟨_, rfl, (F49.set 0 (by simp) _).set 1 (by simp) _, ((Only.refl _ _).set 0 _).set 1 _⟩
                    have S50 : SlX payR w50 (some ⟨g49, 0, none⟩) (n + 1) (l ++ [p]) := by
                      obtain ⟨A', c', e, _, _, h⟩ := slr_of_own R49 (by rw [List.length_append, HLN.out]; rfl)
                      cases e; exact h.cells (fun b hb _ o => by
                        obtain ⟨off, e⟩ := hb
                        cases e
                        exact O50.cell _ n2z_49)
                    have kz50 : w8.heap.size ≤ N46 := kg46
                    have Y50 : Below w8.heap.size w8 w50 := O50.below kz50 Y49
                    have FN50 := Lib.hid (⟨F50, S50, Y50⟩ : _ ∧ _ ∧ _)
                    go_simp
                    (try rw [hw50])
                    refine hK.out _ _ (ZK.out _ Y50) (fun hHeld => ?_)
                    clear hK K
                    try simp only [Act.put, List.getElem_toArray, List.getElem_cons_succ, List.getElem_cons_zero, List.setIfInBounds_toArray, List.set_cons_zero, List.set_cons_succ]
                    refine wpAnyH_done (by kernel_rfl) ?_ _
                    clear hHeld
                    go_wp2_with fail
                    go_meet
                    exact ⟨_, _, _, rfl, FN50⟩
            · obtain ⟨w51, hw51, gr51, bl51, -⟩ := alloc_step w46 (.cells #[.int .u8 p.kind, .int .i64 p.num, .int .i64 p.amt] 44)
              have Y51 := below_step Y46 bl51
              obtain ⟨N51, hN51⟩ : ∃ N, w46.heap.size = N := ⟨_, rfl⟩
              have F51 := box_grown F46 gr51 (fun h => by cases h)
              have R51 := R46.kept gr51 (.inr (fun h => by cases h))
              have P51 : Box w51 N51 [.int .u8 p.kind, .int .i64 p.num, .int .i64 p.amt] := by rw [← hw51, ← hN51]; exact Box.new _ _ _
              have n01_51 : N21 ≠ N51 := by have : N21 < w46.heap.size := (R46.lt N21 rfl).2; omega
              go_simp
              (try rw [hw51])
              (try rw [hN51])
              refine hK.out _ _ (ZK.out _ Y51) (fun hHeld => ?_)
              clear hK K
              try simp only [Act.put, List.getElem_toArray, List.getElem_cons_succ, List.getElem_cons_zero, List.setIfInBounds_toArray, List.set_cons_zero, List.set_cons_succ]
              refine wpAnyH_ready (rs := [5]) (by kernel_rfl) (by simp) ?_
              refine (AllReadyH.cons rfl (fun K hK => ?_) AllReadyH.nil)
              · refine step_append_recs_g pay_recTy w51 (by rfl) _ _ (by rfl) w8.heap.size _ 0 [] (by rfl) R51 (some ⟨bA, oA, none⟩) n c l (by rfl) (SLK.out _ Y51) hnp hn3 Y51.size n hnz l rfl ?_
                intro g52 cap52 w52 R52 gr52 hat52 bl52
                have Y52 := Y51.trans bl52
                have P52 := box_grown P51 gr52 (fun h => n01_51 (Option.some.inj h))
                have F52 := box_grown F51 gr52 (fun h => n0z_46 (Option.some.inj h))
                have n1z_52 : g52 ≠ N46 := by
                  rcases hat52 with h | h
                  · have h2 : some N21 = some g52 := h
                    rw [← Option.some.inj h2]; exact n0z_46
                  · have := F51.1; omega
                refine hK.out _ _ (ZK.out _ Y52) (fun hHeld => ?_)
                clear hK K
                try simp only [Act.put, List.getElem_toArray, List.getElem_cons_succ, List.getElem_cons_zero, List.setIfInBounds_toArray, List.set_cons_zero, List.set_cons_succ]
                refine wpAnyH_ready (rs := [12]) (by kernel_rfl) (by simp) ?_
                refine (AllReadyH.cons rfl (fun K hK => ?_) AllReadyH.nil)
                · refine step_append_rec pay_recTy w52 (by rfl) _ _ (by rfl) w8.heap.size _ n l p (by rfl) R52 N51 (by rfl) (fun j u hj => P52.c j hj) (by omega) Y52.size ?_
                  intro g53 cap53 w53 R53 gr53 hat53 bl53
                  have Y53 := Y52.trans bl53
                  have F53 := box_grown F52 gr53 (fun h => n1z_52 (Option.some.inj h))
                  have n2z_53 : g53 ≠ N46 := by
                    rcases hat53 with h | h
                    · have h2 : some g52 = some g53 := h
                      rw [← Option.some.inj h2]; exact n1z_52
                    · have := F52.1; omega
                  refine hK.out _ _ (ZK.out _ Y53) (fun hHeld => ?_)
                  clear hK K
                  try simp only [Act.put, List.getElem_toArray, List.getElem_cons_succ, List.getElem_cons_zero, List.setIfInBounds_toArray, List.set_cons_zero, List.set_cons_succ]
                  refine wpAnyH_take (i := 13) (v := .agg #[.int .i64 per, .slice (some ⟨g53, 0, none⟩) (n + 1) cap53]) rfl (by kernel_rfl) (by kernel_rfl) (by kernel_rfl) (fun _ _ _ h => h) (Or.inl ⟨by rfl, fun w hSw => by go_simp⟩) hHeld ?_
                  try simp only [Act.put, List.getElem_toArray, List.getElem_cons_succ, List.getElem_cons_zero, List.setIfInBounds_toArray, List.set_cons_zero, List.set_cons_succ]
                  refine wpAnyH_ready (rs := [15]) (by kernel_rfl) (by simp) ?_
                  refine (AllReadyH.cons rfl (fun K hK => ?_) AllReadyH.nil)
                  · obtain ⟨c0_54, c1_54⟩ := c2 F53
                    obtain ⟨d0_54, d1_54⟩ := f2 F53
                    have sz54 := F53.1
                    obtain ⟨w54, hw54, F54, O54⟩ : ∃ wN, (w53.setCell ⟨N46, 0, none⟩ (.int .i64 per)).setCell ⟨N46, 1, none⟩ (.slice (some ⟨g53, 0, none⟩) (n + 1) cap53) = wN ∧ Box wN N46 [.int .i64 per, .slice (some ⟨g53, 0, none⟩) (n + 1) cap53] ∧ Only N46 w53 wN := ⟨_, rfl, (F53.set 0 (by simp) _).set 1 (by simp) _, ((Only.refl _ _).set 0 _).set 1 _⟩
                    have S54 : SlX payR w54 (some ⟨g53, 0, none⟩) (n + 1) (l ++ [p]) := by
                      obtain ⟨A', c', e, _, _, h⟩ := slr_of_own R53 (by rw [List.length_append, HLN.out]; rfl)
                      cases e; exact h.cells (fun b hb _ o => by
                        obtain ⟨off, e⟩ := hb
                        cases e
                        exact O54.cell _ n2z_53)
                    have kz54 : w8.heap.size ≤ N46 := kg46
                    have Y54 : Below w8.heap.size w8 w54 := O54.below kz54 Y53
                    have FN54 := Lib.hid (⟨F54, S54, Y54⟩ : _ ∧ _ ∧ _)
                    go_simp
                    (try rw [hw54])
                    refine hK.out _ _ (ZK.out _ Y54) (fun hHeld => ?_)
                    clear hK K
                    try simp only [Act.put, List.getElem_toArray, List.getElem_cons_succ, List.getElem_cons_zero, List.setIfInBounds_toArray, List.set_cons_zero, List.set_cons_succ]
                    refine wpAnyH_done (by kernel_rfl) ?_ _
                    clear hHeld
                    go_wp2_with fail
                    go_meet
                    exact ⟨_, _, _, rfl, FN54⟩
        · obtain ⟨w55, hw55, gr55, bl55, -⟩ := alloc_step w9 (.cells #[.int .u8 p.kind, .int .i64 p.num, .int .i64 p.amt] 44)
          have Y55 := below_step Y9 bl55
          obtain ⟨N55, hN55⟩ : ∃ N, w9.heap.size = N := ⟨_, rfl⟩
          have P55 : Box w55 N55 [.int .u8 p.kind, .int .i64 p.num, .int .i64 p.amt] := by rw [← hw55, ← hN55]; exact Box.new _ _ _
          go_simp
          (try rw [hw55])
          (try rw [hN55])
          refine hK.out _ _ (ZK.out _ Y55) (fun hHeld => ?_)
          clear hK K
          try simp only [Act.put, List.getElem_toArray, List.getElem_cons_succ, List.getElem_cons_zero, List.setIfInBounds_toArray, List.set_cons_zero, List.set_cons_succ]
          refine wpAnyH_ready (rs := [2, 14]) (by kernel_rfl) (by simp) ?_
          refine (AllReadyH.cons rfl (fun K hK => ?_) (AllReadyH.cons rfl (fun K hK => ?_) AllReadyH.nil))
          · obtain ⟨w56, hw56, gr56, bl56, -⟩ := alloc_step w55 (.cells #[] 44)
            have Y56 := below_step Y55 bl56
            obtain ⟨N56, hN56⟩ : ∃ N, w55.heap.size = N := ⟨_, rfl⟩
            have P56 := box_grown P55 gr56 (fun h => by cases h)
            have R56 : w56.ownsRow w8.heap.size 44 payR.k (.slice (some ⟨N56, 0, none⟩) 0 0) 0 (payR.cells []) := by rw [← hw56, ← hN56]; exact own_built payR w55 44 [] Y55.size (by unfold maxLen; decide)
            have n01_56 : N56 ≠ N55 := by have := P55.1; omega
            go_simp
            (try rw [hw56])
            (try rw [hN56])
            refine hK.out _ _ (ZK.out _ Y56) (fun hHeld => ?_)
            clear hK K
            try simp only [Act.put, List.getElem_toArray, List.getElem_cons_succ, List.getElem_cons_zero, List.setIfInBounds_toArray, List.set_cons_zero, List.set_cons_succ]
            refine wpAnyH_ready (rs := [5, 14]) (by kernel_rfl) (by simp) ?_
            refine (AllReadyH.cons rfl (fun K hK => ?_) (AllReadyH.cons rfl (fun K hK => ?_) AllReadyH.nil))
            · refine step_append_recs_g pay_recTy w56 (by rfl) _ _ (by rfl) w8.heap.size _ 0 [] (by rfl) R56 (some ⟨bA, oA, none⟩) n c l (by rfl) (SLK.out _ Y56) hnp hn3 Y56.size n hnz l rfl ?_
              intro g57 cap57 w57 R57 gr57 hat57 bl57
              have Y57 := Y56.trans bl57
              have P57 := box_grown P56 gr57 (fun h => n01_56 (Option.some.inj h))
              refine hK.out _ _ (ZK.out _ Y57) (fun hHeld => ?_)
              clear hK K
              try simp only [Act.put, List.getElem_toArray, List.getElem_cons_succ, List.getElem_cons_zero, List.setIfInBounds_toArray, List.set_cons_zero, List.set_cons_succ]
              refine wpAnyH_ready (rs := [12, 14]) (by kernel_rfl) (by simp) ?_
              refine (AllReadyH.cons rfl (fun K hK => ?_) (AllReadyH.cons rfl (fun K hK => ?_) AllReadyH.nil))
              · refine step_append_rec pay_recTy w57 (by rfl) _ _ (by rfl) w8.heap.size _ n l p (by rfl) R57 N55 (by rfl) (fun j u hj => P57.c j hj) (by omega) Y57.size ?_
                intro g58 cap58 w58 R58 gr58 hat58 bl58
                have Y58 := Y57.trans bl58
                refine hK.out _ _ (ZK.out _ Y58) (fun hHeld => ?_)
                clear hK K
                try simp only [Act.put, List.getElem_toArray, List.getElem_cons_succ, List.getElem_cons_zero, List.setIfInBounds_toArray, List.set_cons_zero, List.set_cons_succ]
                refine wpAnyH_take (i := 13) (v := .agg #[.int .i64 per, .slice (some ⟨g58, 0, none⟩) (n + 1) cap58]) rfl (by kernel_rfl) (by kernel_rfl) (by kernel_rfl) (fun _ _ _ h => h) (Or.inl ⟨by rfl, fun w hSw => by go_simp⟩) hHeld ?_
                try simp only [Act.put, List.getElem_toArray, List.getElem_cons_succ, List.getElem_cons_zero, List.setIfInBounds_toArray, List.set_cons_zero, List.set_cons_succ]
                refine wpAnyH_ready (rs := [14]) (by kernel_rfl) (by simp) ?_
                refine (AllReadyH.cons rfl (fun K hK => ?_) AllReadyH.nil)
                · obtain ⟨w59, hw59, gr59, bl59, -⟩ := alloc_step w58 (.cells #[.int .i64 0, .slice none 0 0] 24)
                  have Y59 := below_step Y58 bl59
                  obtain ⟨N59, hN59⟩ : ∃ N, w58.heap.size = N := ⟨_, rfl⟩
                  have R59 := R58.kept gr59 (.inr (fun h => by cases h))
                  have F59 : Box w59 N59 [.int .i64 0, .slice none 0 0] := by rw [← hw59, ← hN59]; exact Box.new _ _ _
                  have kg59 : w8.heap.size ≤ N59 := by have := Y58.size; omega
                  have n2z_59 : g58 ≠ N59 := by have : g58 < w58.heap.size := (R58.lt g58 rfl).2; omega
                  go_simp
                  (try rw [hw59])
                  (try rw [hN59])
                  refine hK.out _ _ (ZK.out _ Y59) (fun hHeld => ?_)
                  clear hK K
                  try simp only [Act.put, List.getElem_toArray, List.getElem_cons_succ, List.getElem_cons_zero, List.setIfInBounds_toArray, List.set_cons_zero, List.set_cons_succ]
                  refine wpAnyH_ready (rs := [15]) (by kernel_rfl) (by simp) ?_
                  refine (AllReadyH.cons rfl (fun K hK => ?_) AllReadyH.nil)
                  · obtain ⟨c0_60, c1_60⟩ := c2 F59
                    obtain ⟨d0_60, d1_60⟩ := f2 F59
                    have sz60 := F59.1
                    obtain ⟨w60, hw60, F60, O60⟩ : ∃ wN, (w59.setCell ⟨N59, 0, none⟩ (.int .i64 per)).setCell ⟨N59, 1, none⟩ (.slice (some ⟨g58, 0, none⟩) (n + 1) cap58) = wN ∧ Box wN N59 [.int .i64 per, .slice (some ⟨g58, 0, none⟩) (n + 1) cap58] ∧ Only N59 w59 wN := ⟨_, rfl, (F59.set 0 (by simp) _).set 1 (by simp) _, ((Only.refl _ _).set 0 _).set 1 _⟩
                    have S60 : SlX payR w60 (some ⟨g58, 0, none⟩) (n + 1) (l ++ [p]) := by
                      obtain ⟨A', c', e, _, _, h⟩ := slr_of_own R59 (by rw [List.length_append, HLN.out]; rfl)
                      cases e; exact h.cells (fun b hb _ o => by
                        obtain ⟨off, e⟩ := hb
                        cases e
                        exact O60.cell _ n2z_59)
                    have kz60 : w8.heap.size ≤ N59 := kg59
                    have Y60 : Below w8.heap.size w8 w60 := O60.below kz60 Y59
                    have FN60 := Lib.hid (⟨F60, S60, Y60⟩ : _ ∧ _ ∧ _)
                    go_simp
                    (try rw [hw60])
                    refine hK.out _ _ (ZK.out _ Y60) (fun hHeld => ?_)
                    clear hK K
                    try simp only [Act.put, List.getElem_toArray, List.getElem_cons_succ, List.getElem_cons_zero, List.setIfInBounds_toArray, List.set_cons_zero, List.set_cons_succ]
                    refine wpAnyH_done (by kernel_rfl) ?_ _
                    clear hHeld
                    go_wp2_with fail
                    go_meet
                    exact ⟨_, _, _, rfl, FN60⟩
              · obtain ⟨w61, hw61, gr61, bl61, -⟩ := alloc_step w57 (.cells #[.int .i64 0, .slice none 0 0] 24)
                have Y61 := below_step Y57 bl61
                obtain ⟨N61, hN61⟩ : ∃ N, w57.heap.size = N := ⟨_, rfl⟩
                have P61 := box_grown P57 gr61 (fun h => by cases h)
                have R61 := R57.kept gr61 (.inr (fun h => by cases h))
                have F61 : Box w61 N61 [.int .i64 0, .slice none 0 0] := by rw [← hw61, ← hN61]; exact Box.new _ _ _
                have kg61 : w8.heap.size ≤ N61 := by have := Y57.size; omega
                have n1z_61 : g57 ≠ N61 := by have : g57 < w57.heap.size := (R57.lt g57 rfl).2; omega
                go_simp
                (try rw [hw61])
                (try rw [hN61])
                refine hK.out _ _ (ZK.out _ Y61) (fun hHeld => ?_)
                clear hK K
                try simp only [Act.put, List.getElem_toArray, List.getElem_cons_succ, List.getElem_cons_zero, List.setIfInBounds_toArray, List.set_cons_zero, List.set_cons_succ]
                refine wpAnyH_ready (rs := [12]) (by kernel_rfl) (by simp) ?_
                refine (AllReadyH.cons rfl (fun K hK => ?_) AllReadyH.nil)
                · refine step_append_rec pay_recTy w61 (by rfl) _ _ (by rfl) w8.heap.size _ n l p (by rfl) R61 N55 (by rfl) (fun j u hj => P61.c j hj) (by omega) Y61.size ?_
                  intro g62 cap62 w62 R62 gr62 hat62 bl62
                  have Y62 := Y61.trans bl62
                  have F62 := box_grown F61 gr62 (fun h => n1z_61 (Option.some.inj h))
                  have n2z_62 : g62 ≠ N61 := by
                    rcases hat62 with h | h
                    · have h2 : some g57 = some g62 := h
                      rw [← Option.some.inj h2]; exact n1z_61
                    · have := F61.1; omega
                  refine hK.out _ _ (ZK.out _ Y62) (fun hHeld => ?_)
                  clear hK K
                  try simp only [Act.put, List.getElem_toArray, List.getElem_cons_succ, List.getElem_cons_zero, List.setIfInBounds_toArray, List.set_cons_zero, List.set_cons_succ]
                  refine wpAnyH_take (i := 13) (v := .agg #[.int .i64 per, .slice (some ⟨g62, 0, none⟩) (n + 1) cap62]) rfl (by kernel_rfl) (by kernel_rfl) (by kernel_rfl) (fun _ _ _ h => h) (Or.inl ⟨by rfl, fun w hSw => by go_simp⟩) hHeld ?_
                  try simp only [Act.put, List.getElem_toArray, List.getElem_cons_succ, List.getElem_cons_zero, List.setIfInBounds_toArray, List.set_cons_zero, List.set_cons_succ]
                  refine wpAnyH_ready (rs := [15]) (by kernel_rfl) (by simp) ?_
                  refine (AllReadyH.cons rfl (fun K hK => ?_) AllReadyH.nil)
                  · obtain ⟨c0_63, c1_63⟩ := c2 F62
                    obtain ⟨d0_63, d1_63⟩ := f2 F62
                    have sz63 := F62.1
                    obtain ⟨w63, hw63, F63, O63⟩ : ∃ wN, (w62.setCell ⟨N61, 0, none⟩ (.int .i64 per)).setCell ⟨N61, 1, none⟩ (.slice (some ⟨g62, 0, none⟩) (n + 1) cap62) = wN ∧ Box wN N61 [.int .i64 per, .slice (some ⟨g62, 0, none⟩) (n + 1) cap62] ∧ Only N61 w62 wN := ⟨_, rfl, (F62.set 0 (by simp) _).set 1 (by simp) _, ((Only.refl _ _).set 0 _).set 1 _⟩
                    have S63 : SlX payR w63 (some ⟨g62, 0, none⟩) (n + 1) (l ++ [p]) := by
                      obtain ⟨A', c', e, _, _, h⟩ := slr_of_own R62 (by rw [List.length_append, HLN.out]; rfl)
                      cases e; exact h.cells (fun b hb _ o => by
                        obtain ⟨off, e⟩ := hb
                        cases e
                        exact O63.cell _ n2z_62)
                    have kz63 : w8.heap.size ≤ N61 := kg61
                    have Y63 : Below w8.heap.size w8 w63 := O63.below kz63 Y62
                    have FN63 := Lib.hid (⟨F63, S63, Y63⟩ : _ ∧ _ ∧ _)
                    go_simp
                    (try rw [hw63])
                    refine hK.out _ _ (ZK.out _ Y63) (fun hHeld => ?_)
                    clear hK K
                    try simp only [Act.put, List.getElem_toArray, List.getElem_cons_succ, List.getElem_cons_zero, List.setIfInBounds_toArray, List.set_cons_zero, List.set_cons_succ]
                    refine wpAnyH_done (by kernel_rfl) ?_ _
                    clear hHeld
                    go_wp2_with fail
                    go_meet
                    exact ⟨_, _, _, rfl, FN63⟩
            · obtain ⟨w64, hw64, gr64, bl64, -⟩ := alloc_step w56 (.cells #[.int .i64 0, .slice none 0 0] 24)
              have Y64 := below_step Y56 bl64
              obtain ⟨N64, hN64⟩ : ∃ N, w56.heap.size = N := ⟨_, rfl⟩
              have P64 := box_grown P56 gr64 (fun h => by cases h)
              have R64 := R56.kept gr64 (.inr (fun h => by cases h))
              have F64 : Box w64 N64 [.int .i64 0, .slice none 0 0] := by rw [← hw64, ← hN64]; exact Box.new _ _ _
              have kg64 : w8.heap.size ≤ N64 := by have := Y56.size; omega
              have n0z_64 : N56 ≠ N64 := by have : N56 < w56.heap.size := (R56.lt N56 rfl).2; omega
              go_simp
              (try rw [hw64])
              (try rw [hN64])
              refine hK.out _ _ (ZK.out _ Y64) (fun hHeld => ?_)
              clear hK K
              try simp only [Act.put, List.getElem_toArray, List.getElem_cons_succ, List.getElem_cons_zero, List.setIfInBounds_toArray, List.set_cons_zero, List.set_cons_succ]
              refine wpAnyH_ready (rs := [5]) (by kernel_rfl) (by simp) ?_
              refine (AllReadyH.cons rfl (fun K hK => ?_) AllReadyH.nil)
              · refine step_append_recs_g pay_recTy w64 (by rfl) _ _ (by rfl) w8.heap.size _ 0 [] (by rfl) R64 (some ⟨bA, oA, none⟩) n c l (by rfl) (SLK.out _ Y64) hnp hn3 Y64.size n hnz l rfl ?_
                intro g65 cap65 w65 R65 gr65 hat65 bl65
                have Y65 := Y64.trans bl65
                have P65 := box_grown P64 gr65 (fun h => n01_56 (Option.some.inj h))
                have F65 := box_grown F64 gr65 (fun h => n0z_64 (Option.some.inj h))
                have n1z_65 : g65 ≠ N64 := by
                  rcases hat65 with h | h
                  · have h2 : some N56 = some g65 := h
                    rw [← Option.some.inj h2]; exact n0z_64
                  · have := F64.1; omega
                refine hK.out _ _ (ZK.out _ Y65) (fun hHeld => ?_)
                clear hK K
                try simp only [Act.put, List.getElem_toArray, List.getElem_cons_succ, List.getElem_cons_zero, List.setIfInBounds_toArray, List.set_cons_zero, List.set_cons_succ]
                refine wpAnyH_ready (rs := [12]) (by kernel_rfl) (by simp) ?_
                refine (AllReadyH.cons rfl (fun K hK => ?_) AllReadyH.nil)
                · refine step_append_rec pay_recTy w65 (by rfl) _ _ (by rfl) w8.heap.size _ n l p (by rfl) R65 N55 (by rfl) (fun j u hj => P65.c j hj) (by omega) Y65.size ?_
                  intro g66 cap66 w66 R66 gr66 hat66 bl66
                  have Y66 := Y65.trans bl66
                  have F66 := box_grown F65 gr66 (fun h => n1z_65 (Option.some.inj h))
                  have n2z_66 : g66 ≠ N64 := by
                    rcases hat66 with h | h
                    · have h2 : some g65 = some g66 := h
                      rw [← Option.some.inj h2]; exact n1z_65
                    · have := F65.1; omega
                  refine hK.out _ _ (ZK.out _ Y66) (fun hHeld => ?_)
                  clear hK K
                  try simp only [Act.put, List.getElem_toArray, List.getElem_cons_succ, List.getElem_cons_zero, List.setIfInBounds_toArray, List.set_cons_zero, List.set_cons_succ]
                  refine wpAnyH_take (i := 13) (v := .agg #[.int .i64 per, .slice (some ⟨g66, 0, none⟩) (n + 1) cap66]) rfl (by kernel_rfl) (by kernel_rfl) (by kernel_rfl) (fun _ _ _ h => h) (Or.inl ⟨by rfl, fun w hSw => by go_simp⟩) hHeld ?_
                  try simp only [Act.put, List.getElem_toArray, List.getElem_cons_succ, List.getElem_cons_zero, List.setIfInBounds_toArray, List.set_cons_zero, List.set_cons_succ]
                  refine wpAnyH_ready (rs := [15]) (by kernel_rfl) (by simp) ?_
                  refine (AllReadyH.cons rfl (fun K hK => ?_) AllReadyH.nil)
                  · obtain ⟨c0_67, c1_67⟩ := c2 F66
                    obtain ⟨d0_67, d1_67⟩ := f2 F66
                    have sz67 := F66.1
                    obtain ⟨w67, hw67, F67, O67⟩ : ∃ wN, (w66.setCell ⟨N64, 0, none⟩ (.int .i64 per)).setCell ⟨N64, 1, none⟩ (.slice (some ⟨g66, 0, none⟩) (n + 1) cap66) = wN ∧ Box wN N64 [.int .i64 per, .slice (some ⟨g66, 0, none⟩) (n + 1) cap66] ∧ Only N64 w66 wN := ⟨_, rfl, (F66.set 0 (by simp) _).set 1 (by simp) _, ((Only.refl _ _).set 0 _).set 1 _⟩
                    have S67 : SlX payR w67 (some ⟨g66, 0, none⟩) (n + 1) (l ++ [p]) := by
                      obtain ⟨A', c', e, _, _, h⟩ := slr_of_own R66 (by rw [List.length_append, HLN.out]; rfl)
                      cases e; exact h.cells (fun b hb _ o => by
                        obtain ⟨off, e⟩ := hb
                        cases e
                        exact O67.cell _ n2z_66)
                    have kz67 : w8.heap.size ≤ N64 := kg64
                    have Y67 : Below w8.heap.size w8 w67 := O67.below kz67 Y66
                    have FN67 := Lib.hid (⟨F67, S67, Y67⟩ : _ ∧ _ ∧ _)
                    go_simp
                    (try rw [hw67])
                    refine hK.out _ _ (ZK.out _ Y67) (fun hHeld => ?_)
                    clear hK K
                    try simp only [Act.put, List.getElem_toArray, List.getElem_cons_succ, List.getElem_cons_zero, List.setIfInBounds_toArray, List.set_cons_zero, List.set_cons_succ]
                    refine wpAnyH_done (by kernel_rfl) ?_ _
                    clear hHeld
                    go_wp2_with fail
                    go_meet
                    exact ⟨_, _, _, rfl, FN67⟩
          · obtain ⟨w68, hw68, gr68, bl68, -⟩ := alloc_step w55 (.cells #[.int .i64 0, .slice none 0 0] 24)
            have Y68 := below_step Y55 bl68
            obtain ⟨N68, hN68⟩ : ∃ N, w55.heap.size = N := ⟨_, rfl⟩
            have P68 := box_grown P55 gr68 (fun h => by cases h)
            have F68 : Box w68 N68 [.int .i64 0, .slice none 0 0] := by rw [← hw68, ← hN68]; exact Box.new _ _ _
            have kg68 : w8.heap.size ≤ N68 := by have := Y55.size; omega
            go_simp
            (try rw [hw68])
            (try rw [hN68])
            refine hK.out _ _ (ZK.out _ Y68) (fun hHeld => ?_)
            clear hK K
            try simp only [Act.put, List.getElem_toArray, List.getElem_cons_succ, List.getElem_cons_zero, List.setIfInBounds_toArray, List.set_cons_zero, List.set_cons_succ]
            refine wpAnyH_ready (rs := [2]) (by kernel_rfl) (by simp) ?_
            refine (AllReadyH.cons rfl (fun K hK => ?_) AllReadyH.nil)
            · obtain ⟨w69, hw69, gr69, bl69, -⟩ := alloc_step w68 (.cells #[] 44)
              have Y69 := below_step Y68 bl69
              obtain ⟨N69, hN69⟩ : ∃ N, w68.heap.size = N := ⟨_, rfl⟩
              have P69 := box_grown P68 gr69 (fun h => by cases h)
              have F69 := box_grown F68 gr69 (fun h => by cases h)
              have R69 : w69.ownsRow w8.heap.size 44 payR.k (.slice (some ⟨N69, 0, none⟩) 0 0) 0 (payR.cells []) := by rw [← hw69, ← hN69]; exact own_built payR w68 44 [] Y68.size (by unfold maxLen; decide)
              have n01_69 : N69 ≠ N55 := by have := P68.1; omega
              have n0z_69 : N69 ≠ N68 := by have := F68.1; omega
              go_simp
              (try rw [hw69])
              (try rw [hN69])
              refine hK.out _ _ (ZK.out _ Y69) (fun hHeld => ?_)
              clear hK K
              try simp only [Act.put, List.getElem_toArray, List.getElem_cons_succ, List.getElem_cons_zero, List.setIfInBounds_toArray, List.set_cons_zero, List.set_cons_succ]
              refine wpAnyH_ready (rs := [5]) (by kernel_rfl) (by simp) ?_
              refine (AllReadyH.cons rfl (fun K hK => ?_) AllReadyH.nil)
              · refine step_append_recs_g pay_recTy w69 (by rfl) _ _ (by rfl) w8.heap.size _ 0 [] (by rfl) R69 (some ⟨bA, oA, none⟩) n c l (by rfl) (SLK.out _ Y69) hnp hn3 Y69.size n hnz l rfl ?_
                intro g70 cap70 w70 R70 gr70 hat70 bl70
                have Y70 := Y69.trans bl70
                have P70 := box_grown P69 gr70 (fun h => n01_69 (Option.some.inj h))
                have F70 := box_grown F69 gr70 (fun h => n0z_69 (Option.some.inj h))
                have n1z_70 : g70 ≠ N68 := by
                  rcases hat70 with h | h
                  · have h2 : some N69 = some g70 := h
                    rw [← Option.some.inj h2]; exact n0z_69
                  · have := F69.1; omega
                refine hK.out _ _ (ZK.out _ Y70) (fun hHeld => ?_)
                clear hK K
                try simp only [Act.put, List.getElem_toArray, List.getElem_cons_succ, List.getElem_cons_zero, List.setIfInBounds_toArray, List.set_cons_zero, List.set_cons_succ]
                refine wpAnyH_ready (rs := [12]) (by kernel_rfl) (by simp) ?_
                refine (AllReadyH.cons rfl (fun K hK => ?_) AllReadyH.nil)
                · refine step_append_rec pay_recTy w70 (by rfl) _ _ (by rfl) w8.heap.size _ n l p (by rfl) R70 N55 (by rfl) (fun j u hj => P70.c j hj) (by omega) Y70.size ?_
                  intro g71 cap71 w71 R71 gr71 hat71 bl71
                  have Y71 := Y70.trans bl71
                  have F71 := box_grown F70 gr71 (fun h => n1z_70 (Option.some.inj h))
                  have n2z_71 : g71 ≠ N68 := by
                    rcases hat71 with h | h
                    · have h2 : some g70 = some g71 := h
                      rw [← Option.some.inj h2]; exact n1z_70
                    · have := F70.1; omega
                  refine hK.out _ _ (ZK.out _ Y71) (fun hHeld => ?_)
                  clear hK K
                  try simp only [Act.put, List.getElem_toArray, List.getElem_cons_succ, List.getElem_cons_zero, List.setIfInBounds_toArray, List.set_cons_zero, List.set_cons_succ]
                  refine wpAnyH_take (i := 13) (v := .agg #[.int .i64 per, .slice (some ⟨g71, 0, none⟩) (n + 1) cap71]) rfl (by kernel_rfl) (by kernel_rfl) (by kernel_rfl) (fun _ _ _ h => h) (Or.inl ⟨by rfl, fun w hSw => by go_simp⟩) hHeld ?_
                  try simp only [Act.put, List.getElem_toArray, List.getElem_cons_succ, List.getElem_cons_zero, List.setIfInBounds_toArray, List.set_cons_zero, List.set_cons_succ]
                  refine wpAnyH_ready (rs := [15]) (by kernel_rfl) (by simp) ?_
                  refine (AllReadyH.cons rfl (fun K hK => ?_) AllReadyH.nil)
                  · obtain ⟨c0_72, c1_72⟩ := c2 F71
                    obtain ⟨d0_72, d1_72⟩ := f2 F71
                    have sz72 := F71.1
                    obtain ⟨w72, hw72, F72, O72⟩ : ∃ wN, (w71.setCell ⟨N68, 0, none⟩ (.int .i64 per)).setCell ⟨N68, 1, none⟩ (.slice (some ⟨g71, 0, none⟩) (n + 1) cap71) = wN ∧ Box wN N68 [.int .i64 per, .slice (some ⟨g71, 0, none⟩) (n + 1) cap71] ∧ Only N68 w71 wN := ⟨_, rfl, (F71.set 0 (by simp) _).set 1 (by simp) _, ((Only.refl _ _).set 0 _).set 1 _⟩
                    have S72 : SlX payR w72 (some ⟨g71, 0, none⟩) (n + 1) (l ++ [p]) := by
                      obtain ⟨A', c', e, _, _, h⟩ := slr_of_own R71 (by rw [List.length_append, HLN.out]; rfl)
                      cases e; exact h.cells (fun b hb _ o => by
                        obtain ⟨off, e⟩ := hb
                        cases e
                        exact O72.cell _ n2z_71)
                    have kz72 : w8.heap.size ≤ N68 := kg68
                    have Y72 : Below w8.heap.size w8 w72 := O72.below kz72 Y71
                    have FN72 := Lib.hid (⟨F72, S72, Y72⟩ : _ ∧ _ ∧ _)
                    go_simp
                    (try rw [hw72])
                    refine hK.out _ _ (ZK.out _ Y72) (fun hHeld => ?_)
                    clear hK K
                    try simp only [Act.put, List.getElem_toArray, List.getElem_cons_succ, List.getElem_cons_zero, List.setIfInBounds_toArray, List.set_cons_zero, List.set_cons_succ]
                    refine wpAnyH_done (by kernel_rfl) ?_ _
                    clear hHeld
                    go_wp2_with fail
                    go_meet
                    exact ⟨_, _, _, rfl, FN72⟩
        · obtain ⟨w73, hw73, gr73, bl73, -⟩ := alloc_step w9 (.cells #[.int .i64 0, .slice none 0 0] 24)
          have Y73 := below_step Y9 bl73
          obtain ⟨N73, hN73⟩ : ∃ N, w9.heap.size = N := ⟨_, rfl⟩
          have F73 : Box w73 N73 [.int .i64 0, .slice none 0 0] := by rw [← hw73, ← hN73]; exact Box.new _ _ _
          have kg73 : w8.heap.size ≤ N73 := by have := Y9.size; omega
          go_simp
          (try rw [hw73])
          (try rw [hN73])
          refine hK.out _ _ (ZK.out _ Y73) (fun hHeld => ?_)
          clear hK K
          try simp only [Act.put, List.getElem_toArray, List.getElem_cons_succ, List.getElem_cons_zero, List.setIfInBounds_toArray, List.set_cons_zero, List.set_cons_succ]
          refine wpAnyH_ready (rs := [2, 11]) (by kernel_rfl) (by simp) ?_
          refine (AllReadyH.cons rfl (fun K hK => ?_) (AllReadyH.cons rfl (fun K hK => ?_) AllReadyH.nil))
          · obtain ⟨w74, hw74, gr74, bl74, -⟩ := alloc_step w73 (.cells #[] 44)
            have Y74 := below_step Y73 bl74
            obtain ⟨N74, hN74⟩ : ∃ N, w73.heap.size = N := ⟨_, rfl⟩
            have F74 := box_grown F73 gr74 (fun h => by cases h)
            have R74 : w74.ownsRow w8.heap.size 44 payR.k (.slice (some ⟨N74, 0, none⟩) 0 0) 0 (payR.cells []) := by rw [← hw74, ← hN74]; exact own_built payR w73 44 [] Y73.size (by unfold maxLen; decide)
            have n0z_74 : N74 ≠ N73 := by have := F73.1; omega
            go_simp
            (try rw [hw74])
            (try rw [hN74])
            refine hK.out _ _ (ZK.out _ Y74) (fun hHeld => ?_)
            clear hK K
            try simp only [Act.put, List.getElem_toArray, List.getElem_cons_succ, List.getElem_cons_zero, List.setIfInBounds_toArray, List.set_cons_zero, List.set_cons_succ]
            refine wpAnyH_ready (rs := [5, 11]) (by kernel_rfl) (by simp) ?_
            refine (AllReadyH.cons rfl (fun K hK => ?_) (AllReadyH.cons rfl (fun K hK => ?_) AllReadyH.nil))
            · refine step_append_recs_g pay_recTy w74 (by rfl) _ _ (by rfl) w8.heap.size _ 0 [] (by rfl) R74 (some ⟨bA, oA, none⟩) n c l (by rfl) (SLK.out _ Y74) hnp hn3 Y74.size n hnz l rfl ?_
              intro g75 cap75 w75 R75 gr75 hat75 bl75
              have Y75 := Y74.trans bl75
              have F75 := box_grown F74 gr75 (fun h => n0z_74 (Option.some.inj h))
              have n1z_75 : g75 ≠ N73 := by
                rcases hat75 with h | h
                · have h2 : some N74 = some g75 := h
                  rw [← Option.some.inj h2]; exact n0z_74
                · have := F74.1; omega
              refine hK.out _ _ (ZK.out _ Y75) (fun hHeld => ?_)
              clear hK K
              try simp only [Act.put, List.getElem_toArray, List.getElem_cons_succ, List.getElem_cons_zero, List.setIfInBounds_toArray, List.set_cons_zero, List.set_cons_succ]
              refine wpAnyH_ready (rs := [11]) (by kernel_rfl) (by simp) ?_
              refine (AllReadyH.cons rfl (fun K hK => ?_) AllReadyH.nil)
              · obtain ⟨w76, hw76, gr76, bl76, -⟩ := alloc_step w75 (.cells #[.int .u8 p.kind, .int .i64 p.num, .int .i64 p.amt] 44)
                have Y76 := below_step Y75 bl76
                obtain ⟨N76, hN76⟩ : ∃ N, w75.heap.size = N := ⟨_, rfl⟩
                have F76 := box_grown F75 gr76 (fun h => by cases h)
                have R76 := R75.kept gr76 (.inr (fun h => by cases h))
                have P76 : Box w76 N76 [.int .u8 p.kind, .int .i64 p.num, .int .i64 p.amt] := by rw [← hw76, ← hN76]; exact Box.new _ _ _
                go_simp
                (try rw [hw76])
                (try rw [hN76])
                refine hK.out _ _ (ZK.out _ Y76) (fun hHeld => ?_)
                clear hK K
                try simp only [Act.put, List.getElem_toArray, List.getElem_cons_succ, List.getElem_cons_zero, List.setIfInBounds_toArray, List.set_cons_zero, List.set_cons_succ]
                refine wpAnyH_ready (rs := [12]) (by kernel_rfl) (by simp) ?_
                refine (AllReadyH.cons rfl (fun K hK => ?_) AllReadyH.nil)
                · refine step_append_rec pay_recTy w76 (by rfl) _ _ (by rfl) w8.heap.size _ n l p (by rfl) R76 N76 (by rfl) (fun j u hj => P76.c j hj) (by omega) Y76.size ?_
                  intro g77 cap77 w77 R77 gr77 hat77 bl77
                  have Y77 := Y76.trans bl77
                  have F77 := box_grown F76 gr77 (fun h => n1z_75 (Option.some.inj h))
                  have n2z_77 : g77 ≠ N73 := by
                    rcases hat77 with h | h
                    · have h2 : some g75 = some g77 := h
                      rw [← Option.some.inj h2]; exact n1z_75
                    · have := F76.1; omega
                  refine hK.out _ _ (ZK.out _ Y77) (fun hHeld => ?_)
                  clear hK K
                  try simp only [Act.put, List.getElem_toArray, List.getElem_cons_succ, List.getElem_cons_zero, List.setIfInBounds_toArray, List.set_cons_zero, List.set_cons_succ]
                  refine wpAnyH_take (i := 13) (v := .agg #[.int .i64 per, .slice (some ⟨g77, 0, none⟩) (n + 1) cap77]) rfl (by kernel_rfl) (by kernel_rfl) (by kernel_rfl) (fun _ _ _ h => h) (Or.inl ⟨by rfl, fun w hSw => by go_simp⟩) hHeld ?_
                  try simp only [Act.put, List.getElem_toArray, List.getElem_cons_succ, List.getElem_cons_zero, List.setIfInBounds_toArray, List.set_cons_zero, List.set_cons_succ]
                  refine wpAnyH_ready (rs := [15]) (by kernel_rfl) (by simp) ?_
                  refine (AllReadyH.cons rfl (fun K hK => ?_) AllReadyH.nil)
                  · obtain ⟨c0_78, c1_78⟩ := c2 F77
                    obtain ⟨d0_78, d1_78⟩ := f2 F77
                    have sz78 := F77.1
                    obtain ⟨w78, hw78, F78, O78⟩ : ∃ wN, (w77.setCell ⟨N73, 0, none⟩ (.int .i64 per)).setCell ⟨N73, 1, none⟩ (.slice (some ⟨g77, 0, none⟩) (n + 1) cap77) = wN ∧ Box wN N73 [.int .i64 per, .slice (some ⟨g77, 0, none⟩) (n + 1) cap77] ∧ Only N73 w77 wN := ⟨_, rfl, (F77.set 0 (by simp) _).set 1 (by simp) _, ((Only.refl _ _).set 0 _).set 1 _⟩
                    have S78 : SlX payR w78 (some ⟨g77, 0, none⟩) (n + 1) (l ++ [p]) := by
                      obtain ⟨A', c', e, _, _, h⟩ := slr_of_own R77 (by rw [List.length_append, HLN.out]; rfl)
                      cases e; exact h.cells (fun b hb _ o => by
                        obtain ⟨off, e⟩ := hb
                        cases e
                        exact O78.cell _ n2z_77)
                    have kz78 : w8.heap.size ≤ N73 := kg73
                    have Y78 : Below w8.heap.size w8 w78 := O78.below kz78 Y77
                    have FN78 := Lib.hid (⟨F78, S78, Y78⟩ : _ ∧ _ ∧ _)
                    go_simp
                    (try rw [hw78])
                    refine hK.out _ _ (ZK.out _ Y78) (fun hHeld => ?_)
                    clear hK K
                    try simp only [Act.put, List.getElem_toArray, List.getElem_cons_succ, List.getElem_cons_zero, List.setIfInBounds_toArray, List.set_cons_zero, List.set_cons_succ]
                    refine wpAnyH_done (by kernel_rfl) ?_ _
                    clear hHeld
                    go_wp2_with fail
                    go_meet
                    exact ⟨_, _, _, rfl, FN78⟩
            · obtain ⟨w79, hw79, gr79, bl79, -⟩ := alloc_step w74 (.cells #[.int .u8 p.kind, .int .i64 p.num, .int .i64 p.amt] 44)
              have Y79 := below_step Y74 bl79
              obtain ⟨N79, hN79⟩ : ∃ N, w74.heap.size = N := ⟨_, rfl⟩
              have F79 := box_grown F74 gr79 (fun h => by cases h)
              have R79 := R74.kept gr79 (.inr (fun h => by cases h))
              have P79 : Box w79 N79 [.int .u8 p.kind, .int .i64 p.num, .int .i64 p.amt] := by rw [← hw79, ← hN79]; exact Box.new _ _ _
              have n01_79 : N74 ≠ N79 := by have : N74 < w74.heap.size := (R74.lt N74 rfl).2; omega
              go_simp
              (try rw [hw79])
              (try rw [hN79])
              refine hK.out _ _ (ZK.out _ Y79) (fun hHeld => ?_)
              clear hK K
              try simp only [Act.put, List.getElem_toArray, List.getElem_cons_succ, List.getElem_cons_zero, List.setIfInBounds_toArray, List.set_cons_zero, List.set_cons_succ]
              refine wpAnyH_ready (rs := [5]) (by kernel_rfl) (by simp) ?_
              refine (AllReadyH.cons rfl (fun K hK => ?_) AllReadyH.nil)
              · refine step_append_recs_g pay_recTy w79 (by rfl) _ _ (by rfl) w8.heap.size _ 0 [] (by rfl) R79 (some ⟨bA, oA, none⟩) n c l (by rfl) (SLK.out _ Y79) hnp hn3 Y79.size n hnz l rfl ?_
                intro g80 cap80 w80 R80 gr80 hat80 bl80
                have Y80 := Y79.trans bl80
                have P80 := box_grown P79 gr80 (fun h => n01_79 (Option.some.inj h))
                have F80 := box_grown F79 gr80 (fun h => n0z_74 (Option.some.inj h))
                have n1z_80 : g80 ≠ N73 := by
                  rcases hat80 with h | h
                  · have h2 : some N74 = some g80 := h
                    rw [← Option.some.inj h2]; exact n0z_74
                  · have := F79.1; omega
                refine hK.out _ _ (ZK.out _ Y80) (fun hHeld => ?_)
                clear hK K
                try simp only [Act.put, List.getElem_toArray, List.getElem_cons_succ, List.getElem_cons_zero, List.setIfInBounds_toArray, List.set_cons_zero, List.set_cons_succ]
                refine wpAnyH_ready (rs := [12]) (by kernel_rfl) (by simp) ?_
                refine (AllReadyH.cons rfl (fun K hK => ?_) AllReadyH.nil)
                · refine step_append_rec pay_recTy w80 (by rfl) _ _ (by rfl) w8.heap.size _ n l p (by rfl) R80 N79 (by rfl) (fun j u hj => P80.c j hj) (by omega) Y80.size ?_
                  intro g81 cap81 w81 R81 gr81 hat81 bl81
                  have Y81 := Y80.trans bl81
                  have F81 := box_grown F80 gr81 (fun h => n1z_80 (Option.some.inj h))
                  have n2z_81 : g81 ≠ N73 := by
                    rcases hat81 with h | h
                    · have h2 : some g80 = some g81 := h
                      rw [← Option.some.inj h2]; exact n1z_80
                    · have := F80.1; omega
                  refine hK.out _ _ (ZK.out _ Y81) (fun hHeld => ?_)
                  clear hK K
                  try simp only [Act.put, List.getElem_toArray, List.getElem_cons_succ, List.getElem_cons_zero, List.setIfInBounds_toArray, List.set_cons_zero, List.set_cons_succ]
                  refine wpAnyH_take (i := 13) (v := .agg #[.int .i64 per, .slice (some ⟨g81, 0, none⟩) (n + 1) cap81]) rfl (by kernel_rfl) (by kernel_rfl) (by kernel_rfl) (fun _ _ _ h => h) (Or.inl ⟨by rfl, fun w hSw => by go_simp⟩) hHeld ?_
                  try simp only [Act.put, List.getElem_toArray, List.getElem_cons_succ, List.getElem_cons_zero, List.setIfInBounds_toArray, List.set_cons_zero, List.set_cons_succ]
                  refine wpAnyH_ready (rs := [15]) (by kernel_rfl) (by simp) ?_
                  refine (AllReadyH.cons rfl (fun K hK => ?_) AllReadyH.nil)
                  · obtain ⟨c0_82, c1_82⟩ := c2 F81
                    obtain ⟨d0_82, d1_82⟩ := f2 F81
                    have sz82 := F81.1
                    obtain ⟨w82, hw82, F82, O82⟩ : ∃ wN, (w81.setCell ⟨N73, 0, none⟩ (.int .i64 per)).setCell ⟨N73, 1, none⟩ (.slice (some ⟨g81, 0, none⟩) (n + 1) cap81) = wN ∧ Box wN N73 [.int .i64 per, .slice (some ⟨g81, 0, none⟩) (n + 1) cap81] ∧ Only N73 w81 wN := ⟨_, rfl, (F81.set 0 (by simp) _).set 1 (by simp) _, ((Only.refl _ _).set 0 _).set 1 _⟩
                    have S82 : SlX payR w82 (some ⟨g81, 0, none⟩) (n + 1) (l ++ [p]) := by
                      obtain ⟨A', c', e, _, _, h⟩ := slr_of_own R81 (by rw [List.length_append, HLN.out]; rfl)
                      cases e; exact h.cells (fun b hb _ o => by
                        obtain ⟨off, e⟩ := hb
                        cases e
                        exact O82.cell _ n2z_81)
                    have kz82 : w8.heap.size ≤ N73 := kg73
                    have Y82 : Below w8.heap.size w8 w82 := O82.below kz82 Y81
                    have FN82 := Lib.hid (⟨F82, S82, Y82⟩ : _ ∧ _ ∧ _)
                    go_simp
                    (try rw [hw82])
                    refine hK.out _ _ (ZK.out _ Y82) (fun hHeld => ?_)
                    clear hK K
                    try simp only [Act.put, List.getElem_toArray, List.getElem_cons_succ, List.getElem_cons_zero, List.setIfInBounds_toArray, List.set_cons_zero, List.set_cons_succ]
                    refine wpAnyH_done (by kernel_rfl) ?_ _
                    clear hHeld
                    go_wp2_with fail
                    go_meet
                    exact ⟨_, _, _, rfl, FN82⟩
          · obtain ⟨w83, hw83, gr83, bl83, -⟩ := alloc_step w73 (.cells #[.int .u8 p.kind, .int .i64 p.num, .int .i64 p.amt] 44)
            have Y83 := below_step Y73 bl83
            obtain ⟨N83, hN83⟩ : ∃ N, w73.heap.size = N := ⟨_, rfl⟩
            have F83 := box_grown F73 gr83 (fun h => by cases h)
            have P83 : Box w83 N83 [.int .u8 p.kind, .int .i64 p.num, .int .i64 p.amt] := by rw [← hw83, ← hN83]; exact Box.new _ _ _
            go_simp
            (try rw [hw83])
            (try rw [hN83])
            refine hK.out _ _ (ZK.out _ Y83) (fun hHeld => ?_)
            clear hK K
            try simp only [Act.put, List.getElem_toArray, List.getElem_cons_succ, List.getElem_cons_zero, List.setIfInBounds_toArray, List.set_cons_zero, List.set_cons_succ]
            refine wpAnyH_ready (rs := [2]) (by kernel_rfl) (by simp) ?_
            refine (AllReadyH.cons rfl (fun K hK => ?_) AllReadyH.nil)
            · obtain ⟨w84, hw84, gr84, bl84, -⟩ := alloc_step w83 (.cells #[] 44)
              have Y84 := below_step Y83 bl84
              obtain ⟨N84, hN84⟩ : ∃ N, w83.heap.size = N := ⟨_, rfl⟩
              have P84 := box_grown P83 gr84 (fun h => by cases h)
              have F84 := box_grown F83 gr84 (fun h => by cases h)
              have R84 : w84.ownsRow w8.heap.size 44 payR.k (.slice (some ⟨N84, 0, none⟩) 0 0) 0 (payR.cells []) := by rw [← hw84, ← hN84]; exact own_built payR w83 44 [] Y83.size (by unfold maxLen; decide)
              have n01_84 : N84 ≠ N83 := by have := P83.1; omega
              have n0z_84 : N84 ≠ N73 := by have := F83.1; omega
              go_simp
              (try rw [hw84])
              (try rw [hN84])
              refine hK.out _ _ (ZK.out _ Y84) (fun hHeld => ?_)
              clear hK K
              try simp only [Act.put, List.getElem_toArray, List.getElem_cons_succ, List.getElem_cons_zero, List.setIfInBounds_toArray, List.set_cons_zero, List.set_cons_succ]
              refine wpAnyH_ready (rs := [5]) (by kernel_rfl) (by simp) ?_
              refine (AllReadyH.cons rfl (fun K hK => ?_) AllReadyH.nil)
              · refine step_append_recs_g pay_recTy w84 (by rfl) _ _ (by rfl) w8.heap.size _ 0 [] (by rfl) R84 (some ⟨bA, oA, none⟩) n c l (by rfl) (SLK.out _ Y84) hnp hn3 Y84.size n hnz l rfl ?_
                intro g85 cap85 w85 R85 gr85 hat85 bl85
                have Y85 := Y84.trans bl85
                have P85 := box_grown P84 gr85 (fun h => n01_84 (Option.some.inj h))
                have F85 := box_grown F84 gr85 (fun h => n0z_84 (Option.some.inj h))
                have n1z_85 : g85 ≠ N73 := by
                  rcases hat85 with h | h
                  · have h2 : some N84 = some g85 := h
                    rw [← Option.some.inj h2]; exact n0z_84
                  · have := F84.1; omega
                refine hK.out _ _ (ZK.out _ Y85) (fun hHeld => ?_)
                clear hK K
                try simp only [Act.put, List.getElem_toArray, List.getElem_cons_succ, List.getElem_cons_zero, List.setIfInBounds_toArray, List.set_cons_zero, List.set_cons_succ]
                refine wpAnyH_ready (rs := [12]) (by kernel_rfl) (by simp) ?_
                refine (AllReadyH.cons rfl (fun K hK => ?_) AllReadyH.nil)
                · refine step_append_rec pay_recTy w85 (by rfl) _ _ (by rfl) w8.heap.size _ n l p (by rfl) R85 N83 (by rfl) (fun j u hj => P85.c j hj) (by omega) Y85.size ?_
                  intro g86 cap86 w86 R86 gr86 hat86 bl86
                  have Y86 := Y85.trans bl86
                  have F86 := box_grown F85 gr86 (fun h => n1z_85 (Option.some.inj h))
                  have n2z_86 : g86 ≠ N73 := by
                    rcases hat86 with h | h
                    · have h2 : some g85 = some g86 := h
                      rw [← Option.some.inj h2]; exact n1z_85
                    · have := F85.1; omega
                  refine hK.out _ _ (ZK.out _ Y86) (fun hHeld => ?_)
                  clear hK K
                  try simp only [Act.put, List.getElem_toArray, List.getElem_cons_succ, List.getElem_cons_zero, List.setIfInBounds_toArray, List.set_cons_zero, List.set_cons_succ]
                  refine wpAnyH_take (i := 13) (v := .agg #[.int .i64 per, .slice (some ⟨g86, 0, none⟩) (n + 1) cap86]) rfl (by kernel_rfl) (by kernel_rfl) (by kernel_rfl) (fun _ _ _ h => h) (Or.inl ⟨by rfl, fun w hSw => by go_simp⟩) hHeld ?_
                  try simp only [Act.put, List.getElem_toArray, List.getElem_cons_succ, List.getElem_cons_zero, List.setIfInBounds_toArray, List.set_cons_zero, List.set_cons_succ]
                  refine wpAnyH_ready (rs := [15]) (by kernel_rfl) (by simp) ?_
                  refine (AllReadyH.cons rfl (fun K hK => ?_) AllReadyH.nil)
                  · obtain ⟨c0_87, c1_87⟩ := c2 F86
                    obtain ⟨d0_87, d1_87⟩ := f2 F86
                    have sz87 := F86.1
                    obtain ⟨w87, hw87, F87, O87⟩ : ∃ wN, (w86.setCell ⟨N73, 0, none⟩ (.int .i64 per)).setCell ⟨N73, 1, none⟩ (.slice (some ⟨g86, 0, none⟩) (n + 1) cap86) = wN ∧ Box wN N73 [.int .i64 per, .slice (some ⟨g86, 0, none⟩) (n + 1) cap86] ∧ Only N73 w86 wN := ⟨_, rfl, (F86.set 0 (by simp) _).set 1 (by simp) _, ((Only.refl _ _).set 0 _).set 1 _⟩
                    have S87 : SlX payR w87 (some ⟨g86, 0, none⟩) (n + 1) (l ++ [p]) := by
                      obtain ⟨A', c', e, _, _, h⟩ := slr_of_own R86 (by rw [List.length_append, HLN.out]; rfl)
                      cases e; exact h.cells (fun b hb _ o => by
                        obtain ⟨off, e⟩ := hb
                        cases e
                        exact O87.cell _ n2z_86)
                    have kz87 : w8.heap.size ≤ N73 := kg73
                    have Y87 : Below w8.heap.size w8 w87 := O87.below kz87 Y86
                    have FN87 := Lib.hid (⟨F87, S87, Y87⟩ : _ ∧ _ ∧ _)
                    go_simp
                    (try rw [hw87])
                    refine hK.out _ _ (ZK.out _ Y87) (fun hHeld => ?_)
                    clear hK K
                    try simp only [Act.put, List.getElem_toArray, List.getElem_cons_succ, List.getElem_cons_zero, List.setIfInBounds_toArray, List.set_cons_zero, List.set_cons_succ]
                    refine wpAnyH_done (by kernel_rfl) ?_ _
                    clear hHeld
                    go_wp2_with fail
                    go_meet
                    exact ⟨_, _, _, rfl, FN87⟩
      case rest =>
        obtain ⟨kz, g2, cap2, rfl, HH⟩ := hcut
        obtain ⟨FB, S2, b2⟩ := HH.out
        have b1c := below_step BC8.out b2
        have CW := Lib.hid (kbwrite_no (per := per) (c := cap2) S2 (by omega) (PBank.twice_not HP8.out))
        have CRT : Hid (∀ W, Below wc.heap.size wc W → Calls Tryd.prog 13 #[.agg #[.int .i64 per, .slice (some ⟨g2, 0, none⟩) (n + 1) cap2]] W (FlagB false W)) := Lib.hid (fun W hb => by
          have h := kright_any (per := per) (c := cap2) (S2.on hb) (by omega)
          rw [decide_eq_false (PBank.twice_not HP8.out)] at h; exact h)
        have CRF : Hid (∀ W, Below w1.heap.size w1 W → Calls Tryd.prog 13 #[.agg #[.int .i64 per, .slice (some ⟨bA, oA, none⟩) n c]] W (FlagB true W)) := Lib.hid (fun W hb => by
          have h := kright_any (per := per) (c := c) (HS.out.on hb) hn
          rw [decide_eq_true HR.out] at h; exact h)
        have CRS : Hid (∀ W, Below w8.heap.size w8 W → Calls Tryd.prog 13 #[.agg #[.int .i64 per, .slice (some ⟨g, 0, none⟩) n cap]] W (FlagB (decide (a = b)) W)) := Lib.hid (fun W hb => by
          have h := kright_any (per := per) (c := cap) (S8.out.on hb) hn
          have e : decide (PBank.Rt per (PBank.swap l a b p q)) = decide (a = b) := by
            by_cases hab : a = b
            · have hqp : q = p := by have h := HP8.out; rw [hab, HQ.out] at h; exact Option.some.inj h
              rw [decide_eq_true hab]
              subst hab; subst hqp
              rw [PBank.swap_self HP8.out, decide_eq_true HR.out]
            · rw [decide_eq_false hab, decide_eq_false (PBank.swap_not HR.out hab HP8.out HQ.out)]
          rw [e] at h; exact h)
        have B1C := Lib.hid b1c
        have HFB := Lib.hid FB; have B8C := Lib.hid b2
        obtain ⟨m0, m1⟩ := c2 FB
        have hsm := FB.1
        clear FB S2 b2 b1c HH ZK SLK HP8 HQ HP
        go_wp2_with (go_at_call 10; refine CW.out.mono ?_)
        intro e20 w20 h20
        obtain ⟨rfl, b20⟩ := h20
        have bq := below_step B8C.out b20
        obtain ⟨m0, m1⟩ := c2 (HX8.out.on bq)
        have hsm := (HX8.out.on bq).1
        have CS := Lib.hid (CRS.out w20 bq)
        have B20 := Lib.hid b20
        clear b20 bq CW CRS
        have hab2 : ((a : Int) == (b : Int)) = decide (a = b) := by
          by_cases hab : a = b
          · rw [hab]; simp
          · rw [decide_eq_false hab, beq_eq_false_iff_ne]; omega
        have hBB : (decide (a = b) == decide (a = b)) = true := by simp
        obtain ⟨bb, hbb⟩ : ∃ bb, decide (a = b) = bb := ⟨_, rfl⟩
        rw [hbb] at CS hab2 hBB
        clear hbb
        go_wp2_with (go_at_call 13; refine CS.out.mono ?_)
        intro e21 w21 h21
        obtain ⟨rfl, b21⟩ := h21
        have bq := below_step B20.out b21
        obtain ⟨m0, m1⟩ := c2 (HFB.out.on bq)
        have hsm := (HFB.out.on bq).1
        have CT := Lib.hid (CRT.out w21 bq)
        have B21 := Lib.hid bq
        clear b21 bq CS CRT
        go_wp2_with (go_at_call 13; refine CT.out.mono ?_)
        intro e22 w22 h22
        obtain ⟨rfl, b22⟩ := h22
        have bq := below_step B1C.out (below_step B21.out b22)
        obtain ⟨m0, m1⟩ := c2 (HXB.out.on bq)
        have hsm := (HXB.out.on bq).1
        have CF := Lib.hid (CRF.out w22 bq)
        have B22 := Lib.hid bq
        clear b22 bq CT CRF B21
        go_wp2_with (go_at_call 13; refine CF.out.mono ?_)
        intro e23 w23 h23
        obtain ⟨rfl, b23⟩ := h23
        have bq := below_step B22.out b23
        have AW := Lib.hid (AWA.out w23 bq)
        have B23 := Lib.hid (below_step B1.out bq)
        clear b23 bq CF B22
        go_wp2_with (go_at_call 9; refine AW.out.mono ?_)
        intro e24 w24 h24
        obtain ⟨rfl, b24⟩ := h24
        have B24 := Lib.hid (below_step B23.out b24)
        clear b24 AW
        go_wp2_with fail
        exact FIN.out _ B24.out
  · have D : Hid (∀ (A3 : Option Addr) (c3 : Nat) (w3 : World), SlX payR w3 A3 n l → Calls Tryd.prog 11 #[.agg #[.int .i64 per, .slice A3 n c3]] w3 (FlagB false w3)) := Lib.hid (fun A3 c3 w3 h => right_no h (by omega) hR)
    clear hR hln h2
    go_enter Tryd.func7, Tryd.ntmps7
    go_upto_region 1 with fail
    rw [HW1.out]
    go_wp2_with (go_at_call 12; refine C1.out.mono ?_)
    intro e3 w3 h3
    obtain ⟨A3, c3, rfl, S3, b3'⟩ := h3
    have D3 := Lib.hid (D.out A3 c3 w3 S3)
    have B3 := Lib.hid b3'
    clear S3 b3' C1 x0 x1 hsx
    go_wp2_with (go_at_call 11; refine D3.out.mono ?_)
    intro e4 w4 h4
    obtain ⟨rfl, b4⟩ := h4
    have b14 := below_step B3.out b4
    have AW := Lib.hid (AWA.out w4 b14)
    have B4 := Lib.hid (below_step B1.out b14)
    clear b4 D3 B3 b14
    go_wp2_with (go_at_call 9; refine AW.out.mono ?_)
    intro e5 w5 h5
    obtain ⟨rfl, b5⟩ := h5
    have B5 := Lib.hid (below_step B4.out b5)
    clear b5 AW
    go_wp2_with fail
    exact FIN.out _ B5.out
end Go.Proofs.YtbnnmakmgleikaaDoor
