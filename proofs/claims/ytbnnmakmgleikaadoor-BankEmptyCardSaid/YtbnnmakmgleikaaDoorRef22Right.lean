/-
  Is it a file: what the reference of layer 22 answers.
-/
import Derived.Test.YtbnnmakmgleikaaDoorRef22Rank
import Derived.Test.YtbnnmakmgleikaaDoorBkFile
import Derived.Test.YtbnnmakmgleikaaDoorBkLawMath
import Derived.Deep.RegionHeld3
set_option linter.unusedVariables false
set_option linter.unusedSimpArgs false
namespace Go.Proofs.YtbnnmakmgleikaaDoor
open Go.RowKit
open PBank (Pay)

theorem keepB6 {w w' : World} {p q r s t u : Addr} {a b c d e f : Value} (hb : Below w.heap.size w w') (h : (w.cell? p = some a ∧ w.cell? q = some b ∧ w.cell? r = some c) ∧ (w.cell? s = some d ∧ w.cell? t = some e ∧ w.cell? u = some f)) : (w'.cell? p = some a ∧ w'.cell? q = some b ∧ w'.cell? r = some c) ∧ (w'.cell? s = some d ∧ w'.cell? t = some e ∧ w'.cell? u = some f) := ⟨keepB3 hb h.1, keepB3 hb h.2⟩
theorem rank_e (z a : Int) (w : World) : Calls Tryd.prog 21 #[.agg #[.int .u8 69, .int .i64 z, .int .i64 a]] w (IntB 0 w) := r22rank_any ⟨69, z, a⟩ w
theorem rank_c (z a : Int) (w : World) : Calls Tryd.prog 21 #[.agg #[.int .u8 67, .int .i64 z, .int .i64 a]] w (IntB 1 w) := r22rank_any ⟨67, z, a⟩ w
set_option maxRecDepth 100000 in
set_option maxHeartbeats 12800000 in
theorem r22right_any {w : World} {per : Int} {A : Option Addr} {n c : Nat} {l : List Pay} (hS : SlX payR w A n l) (hn : (n : Int) ≤ 9223372036854775807) :
    Calls Tryd.prog 11 #[.agg #[.int .i64 per, .slice A n c]] w (FlagB (decide (PBank.Rt per l)) w) := by
  obtain ⟨Q, hQ⟩ : ∃ Q, FlagB (decide (PBank.Rt per l)) w = Q := ⟨_, rfl⟩
  rw [hQ]
  have F : Hid (∀ (b : Bool) (w' : World), (b = true ↔ PBank.Rt per l) → Below w.heap.size w w' → Q (.returned (.bool b)) w') := Lib.hid (fun b w' h hb => by
    rw [← hQ]
    refine ⟨?_, hb⟩
    have : decide (PBank.Rt per l) = b := by rw [Bool.eq_iff_iff, decide_eq_true_eq, h]
    rw [this])
  obtain ⟨w1, hw1, XB, b1⟩ : ∃ w1, w.alloc (.cells #[.int .i64 per, .slice A n c] 32) = w1 ∧ Box w1 w.heap.size [.int .i64 per, .slice A n c] ∧ Below w.heap.size w w1 := ⟨_, rfl, Box.new _ _ [.int .i64 per, .slice A n c], (Below.refl _ _).alloc (Nat.le_refl _) _⟩
  obtain ⟨x0, x1⟩ := c2 XB
  have hsx := XB.1
  have HL := Lib.hid hS.1
  have HS := Lib.hid (hS.on b1); have HXB := Lib.hid XB
  have B1 := Lib.hid b1; have HW1 := Lib.hid hw1
  clear hQ XB b1 hw1 hS
  by_cases p1 : per < 22800
  · go_enter Tryd.func11, Tryd.ntmps11
    go_upto_region 1 with fail
    rw [HW1.out]
    go_wp2_with fail
    exact F.out _ _ ⟨fun h => (by cases h), fun h => (by have := h.lo; omega)⟩ B1.out
  by_cases p2 : 35999 < per
  · go_enter Tryd.func11, Tryd.ntmps11
    go_upto_region 1 with fail
    rw [HW1.out]
    go_wp2_with fail
    exact F.out _ _ ⟨fun h => (by cases h), fun h => (by have := h.hi; omega)⟩ B1.out
  by_cases p3 : 4999 < n
  · have g3 : (4999 : Int) < (n : Int) := by omega
    go_enter Tryd.func11, Tryd.ntmps11
    go_upto_region 1 with fail
    rw [HW1.out]
    go_wp2_with fail
    exact F.out _ _ ⟨fun h => (by cases h), fun h => (by have := h.few; have := HL.out; omega)⟩ B1.out
  have g3 : ¬ (4999 : Int) < (n : Int) := by omega
  have hn5 : n ≤ 4999 := by omega
  go_enter Tryd.func11, Tryd.ntmps11
  go_upto_region 1 with fail
  rw [HW1.out]
  go_wp2_with fail
  clear x0 x1 hsx
  go_loopw [3] (fun i wr => ∃ j : Nat, i = .int .i64 j ∧ j ≤ n ∧ Hid (∀ i, i < j → PBank.good l i = true) ∧ Hid (Below w1.heap.size w1 wr)) (fun i _ => n - (intOf i).toNat)
  case atStart => exact ⟨0, rfl, Nat.zero_le _, Lib.hid (fun i h => absurd h (Nat.not_lt_zero _)), Lib.hid (Below.refl _ _)⟩
  case round =>
    obtain ⟨j, rfl, hj, J1, J2⟩ := hrel
    obtain ⟨x0, x1⟩ := c2 (HXB.out.on J2.out)
    have hsx := (HXB.out.on J2.out).1
    by_cases hlt : j < n
    · have gj : (j : Int) < (n : Int) := by omega
      have gj0 : (0 : Int) ≤ (j : Int) := by omega
      obtain ⟨b, o, rfl, -⟩ := (HS.out.on J2.out).at hlt
      obtain ⟨p, hp⟩ : ∃ p, l[j]? = some p := ⟨_, List.getElem?_eq_getElem (by rw [HL.out]; exact hlt)⟩
      obtain ⟨l0, l1, l2⟩ := pay_cell (HS.out.on J2.out) hlt hp
      have hsl := World.block_lt_of_cell? wr _ l0
      have HP := Lib.hid hp
      obtain ⟨pk, pn, pa⟩ := p
      dsimp only at l0 l1 l2
      obtain ⟨w9, hw9, SB, b9⟩ : ∃ w9, wr.alloc (.cells #[.int .u8 0, .int .i64 0, .int .i64 0] 63) = w9 ∧ Box w9 wr.heap.size [.int .u8 0, .int .i64 0, .int .i64 0] ∧ Below wr.heap.size wr w9 := ⟨_, rfl, Box.new _ _ [.int .u8 0, .int .i64 0, .int .i64 0], (Below.refl _ _).alloc (Nat.le_refl _) _⟩
      obtain ⟨w10, hw10, X10, ON10⟩ := set3 SB (.int .u8 pk) (.int .i64 pn) (.int .i64 pa)
      have b10 : Below wr.heap.size wr w10 := ON10.below (Nat.le_refl _) b9
      have B10 := Lib.hid (below_step J2.out b10)
      obtain ⟨s0, s1, s2⟩ := b3 SB
      obtain ⟨m0, m1, m2⟩ := f3 SB
      have hs9 := SB.1
      obtain ⟨u0, u1, u2⟩ := b3 X10
      have hs10 := X10.1
      have HX10 := Lib.hid X10
      have HW10 := Lib.hid hw10
      clear SB X10 ON10 b9 b10 hw10 J2 hp
      cases hok : PBank.okP ⟨pk, pn, pa⟩ with
      | false =>
        have HB : Hid (PBank.good l j = false) := Lib.hid (good_bad HP.out hok)
        have h9 : (¬ pk = 69 ∧ ¬ pk = 67) ∨ ((pk = 69 ∨ pk = 67) ∧ (pn < 1 ∨ (¬ pn < 1 ∧ 2147483647 < pn) ∨ (¬ pn < 1 ∧ ¬ 2147483647 < pn ∧ pa < 1) ∨ (¬ pn < 1 ∧ ¬ 2147483647 < pn ∧ ¬ pa < 1 ∧ 1125899906842624 < pa))) := by
          rw [Bool.eq_false_iff, ne_eq, PBank.okP_iff] at hok
          dsimp only at hok
          omega
        clear hok
        rcases h9 with ⟨g1, g2⟩ | ⟨rfl | rfl, g | ⟨g1, g⟩ | ⟨g1, g2, g⟩ | ⟨g1, g2, g3, g⟩⟩
        all_goals
          go_upto_region 7 with fail
          rw [HW10.out]
          clear HW10 hw9 s0 s1 s2 m0 m1 m2 hs9 l0 l1 l2 hsl x0 x1 hsx
          go_wp2_with fail
          exact F.out _ _ ⟨fun h => (by cases h), fun h => (by have := h.all j (by have := HL.out; omega); rw [HB.out] at this; cases this)⟩ (below_step B1.out B10.out)
      | true =>
        obtain ⟨h1, h2, h3, h4, h5⟩ := PBank.okP_iff.1 hok
        dsimp only at h1 h2 h3 h4 h5
        have i2 : ¬ pn < 1 := by omega
        have i3 : ¬ 2147483647 < pn := by omega
        have i4 : ¬ pa < 1 := by omega
        have i5 : ¬ 1125899906842624 < pa := by omega
        have HOK := Lib.hid hok
        clear hok h2 h3 h4 h5
        go_upto_region 7 with fail
        rw [HW10.out]
        clear HW10 hw9 s0 s1 s2 m0 m1 m2 hs9 l0 l1 l2 hsl x0 x1 hsx
        cases j with
        | zero =>
          have HB : Hid (PBank.good l 0 = true) := Lib.hid (by rw [good_zero HP.out]; exact HOK.out)
          rcases h1 with rfl | rfl
          all_goals
            go_wp2_with fail
            exact ⟨⟨0 + 1, rfl, by omega, Lib.hid (fun i h => by obtain rfl : i = 0 := by omega
                                                                 exact HB.out), B10⟩, by simp [intOf]; omega⟩
        | succ j =>
          obtain ⟨q, hq⟩ : ∃ q, l[j]? = some q := ⟨_, List.getElem?_eq_getElem (by rw [HL.out]; omega)⟩
          have HSX := HS.out.on B10.out
          obtain ⟨q0, q1, q2⟩ := pay_cell HSX (show j < n by omega) hq
          have hkq : q.kind = 69 ∨ q.kind = 67 := (PBank.okP_iff.1 (by
            have := J1.out j (by omega)
            unfold PBank.good at this
            rw [Bool.and_eq_true, List.getD, hq] at this
            exact this.1)).1
          obtain ⟨fx0, fx1⟩ := c2 (HXB.out.on B10.out)
          have hsf := (HXB.out.on B10.out).1
          have hsq := World.block_lt_of_cell? w10 _ q0
          have HGN : Hid (PBank.good l (j + 1) = PBank.lt q ⟨pk, pn, pa⟩) := Lib.hid (by rw [good_next HP.out hq, HOK.out, Bool.true_and])
          obtain ⟨qk, qn, qa⟩ := q
          dsimp only at q0 q1 q2 hkq
          have gi0 : (0 : Int) ≤ (j : Int) := by omega
          have gw1 : IntKind.i64.wrap ((j : Int) + 1 - 1) = (j : Int) := by rw [IntKind.wrap_i64]; omega
          have gw2 : IntKind.i64.wrap (j : Int) = (j : Int) := by rw [IntKind.wrap_i64]; omega
          have gw3 : (j : Int) + 1 - 1 = (j : Int) := by omega
          have gtn : ((j : Int)).toNat = j := by omega
          have gne : ((j : Int) + 1 == 0) = false := by rw [beq_eq_false_iff_ne]; omega
          have gj5 : (j : Int) < (n : Int) := by omega
          obtain ⟨w11, hw11, SB, b11⟩ : ∃ w11, w10.alloc (.cells #[.int .u8 0, .int .i64 0, .int .i64 0] 63) = w11 ∧ Box w11 w10.heap.size [.int .u8 0, .int .i64 0, .int .i64 0] ∧ Below w10.heap.size w10 w11 := ⟨_, rfl, Box.new _ _ [.int .u8 0, .int .i64 0, .int .i64 0], (Below.refl _ _).alloc (Nat.le_refl _) _⟩
          obtain ⟨w12, hw12, X12, ON12⟩ := set3 SB (.int .u8 qk) (.int .i64 qn) (.int .i64 qa)
          have b12 : Below w10.heap.size w10 w12 := ON12.below (Nat.le_refl _) b11
          have B12 := Lib.hid (below_step B10.out b12)
          obtain ⟨t0, t1, t2⟩ := b3 SB
          obtain ⟨n0, n1, n2⟩ := f3 SB
          have hs11 := SB.1
          obtain ⟨v0, v1, v2⟩ := b3 X12
          have hs12 := X12.1
          obtain ⟨e0, e1, e2⟩ := b3 (HX10.out.on b12)
          have hse := (HX10.out.on b12).1
          have HW12 := Lib.hid hw12
          clear SB X12 ON12 b11 b12 hw12 hq HSX
          rcases h1 with rfl | rfl
          · rcases hkq with rfl | rfl
            · go_upto_region 11 with fail
              rw [HW12.out]
              clear HW12 hw11 t0 t1 t2 n0 n1 n2 hs11 q0 q1 q2 hsq fx0 fx1 hsf u0 u1 u2 hs10
              have Z0 : (w12.drew.cell? ⟨wr.heap.size, 0, none⟩ = some (.int .u8 69) ∧ w12.drew.cell? ⟨wr.heap.size, 1, none⟩ = some (.int .i64 pn) ∧ w12.drew.cell? ⟨wr.heap.size, 2, none⟩ = some (.int .i64 pa)) ∧ (w12.drew.cell? ⟨w10.heap.size, 0, none⟩ = some (.int .u8 69) ∧ w12.drew.cell? ⟨w10.heap.size, 1, none⟩ = some (.int .i64 qn) ∧ w12.drew.cell? ⟨w10.heap.size, 2, none⟩ = some (.int .i64 qa)) := ⟨⟨e0, e1, e2⟩, v0, v1, v2⟩
              have BD := Lib.hid (B12.out.drew)
              have C1 := rank_e qn qa w12.drew
              clear v0 v1 v2 e0 e1 e2
              go_region_held3 (fun w' => (w'.cell? ⟨wr.heap.size, 0, none⟩ = some (.int .u8 69) ∧ w'.cell? ⟨wr.heap.size, 1, none⟩ = some (.int .i64 pn) ∧ w'.cell? ⟨wr.heap.size, 2, none⟩ = some (.int .i64 pa)) ∧ (w'.cell? ⟨w10.heap.size, 0, none⟩ = some (.int .u8 69) ∧ w'.cell? ⟨w10.heap.size, 1, none⟩ = some (.int .i64 qn) ∧ w'.cell? ⟨w10.heap.size, 2, none⟩ = some (.int .i64 qa)))
                (first
                  | with_reducible exact Z0
                  | with_reducible exact Z1
                  | with_reducible exact Z2
                  | with_reducible exact Z3
                  | with_reducible exact Z4)
                (first
                  | (go_at_call 21; (with_reducible refine C1.mono ?_); rintro _ w13 ⟨rfl, b13⟩; have Z1 := keepB6 b13 Z0; have C2 := rank_e pn pa w13)
                  | (go_at_call 21; (with_reducible refine C2.mono ?_); rintro _ w14 ⟨rfl, b14⟩; have Z2 := keepB6 b14 Z1; have C3 := rank_e qn qa w14)
                  | (go_at_call 21; (with_reducible refine C3.mono ?_); rintro _ w15 ⟨rfl, b15⟩; have Z3 := keepB6 b15 Z2; have C4 := rank_e pn pa w15)
                  | (go_at_call 21; (with_reducible refine C4.mono ?_); rintro _ w16 ⟨rfl, b16⟩; have Z4 := keepB6 b16 Z3))
              all_goals
                have B16 := Lib.hid (below_step (below_step (below_step (below_step BD.out b13) b14) b15) b16)
                clear Z0 Z1 Z2 Z3 Z4 b13 b14 b15 b16 C1 C2 C3 C4
                by_cases hg : pn ≤ qn
                · have HB : Hid (PBank.good l (j + 1) = false) := Lib.hid (by rw [HGN.out, Bool.eq_false_iff, ne_eq, PBank.lt_iff]; dsimp only; omega)
                  go_wp2_with fail
                  exact F.out _ _ ⟨fun h => (by cases h), fun h => (by have := h.all (j + 1) (by have := HL.out; omega); rw [HB.out] at this; cases this)⟩ (below_step B1.out B16.out)
                · have HB : Hid (PBank.good l (j + 1) = true) := Lib.hid (by rw [HGN.out, PBank.lt_iff]; dsimp only; omega)
                  go_wp2_with fail
                  exact ⟨⟨j + 1 + 1, by congr 1, by omega, Lib.hid (fun i h => by
                    by_cases e : i = j + 1
                    · rw [e]; exact HB.out
                    · exact J1.out i (by omega)), B16⟩, by simp [intOf]; omega⟩
            · go_upto_region 11 with fail
              rw [HW12.out]
              clear HW12 hw11 t0 t1 t2 n0 n1 n2 hs11 q0 q1 q2 hsq fx0 fx1 hsf u0 u1 u2 hs10
              have Z0 : (w12.drew.cell? ⟨wr.heap.size, 0, none⟩ = some (.int .u8 69) ∧ w12.drew.cell? ⟨wr.heap.size, 1, none⟩ = some (.int .i64 pn) ∧ w12.drew.cell? ⟨wr.heap.size, 2, none⟩ = some (.int .i64 pa)) ∧ (w12.drew.cell? ⟨w10.heap.size, 0, none⟩ = some (.int .u8 67) ∧ w12.drew.cell? ⟨w10.heap.size, 1, none⟩ = some (.int .i64 qn) ∧ w12.drew.cell? ⟨w10.heap.size, 2, none⟩ = some (.int .i64 qa)) := ⟨⟨e0, e1, e2⟩, v0, v1, v2⟩
              have BD := Lib.hid (B12.out.drew)
              have C1 := rank_c qn qa w12.drew
              clear v0 v1 v2 e0 e1 e2
              refine wp_region_held_drew (S := fun w' => (w'.cell? ⟨wr.heap.size, 0, none⟩ = some (.int .u8 69) ∧ w'.cell? ⟨wr.heap.size, 1, none⟩ = some (.int .i64 pn) ∧ w'.cell? ⟨wr.heap.size, 2, none⟩ = some (.int .i64 pa)) ∧ (w'.cell? ⟨w10.heap.size, 0, none⟩ = some (.int .u8 67) ∧ w'.cell? ⟨w10.heap.size, 1, none⟩ = some (.int .i64 qn) ∧ w'.cell? ⟨w10.heap.size, 2, none⟩ = some (.int .i64 qa))) (by kernel_rfl) Z0 (fun hHeld => ?_)
              refine wpAnyH_take (i := 0) (v := .agg #[.int .u8 67, .int .i64 qn, .int .i64 qa]) rfl (by kernel_rfl) (by kernel_rfl) (by kernel_rfl) (fun _ _ _ h => h) (Or.inl ⟨by rfl, fun w hSw => by obtain ⟨⟨a0, a1, a2⟩, a3, a4, a5⟩ := hSw; go_simp⟩) hHeld ?_
              try simp only [Act.put, List.getElem_toArray, List.getElem_cons_succ, List.getElem_cons_zero, List.setIfInBounds_toArray, List.set_cons_zero, List.set_cons_succ]
              refine wpAnyH_take (i := 2) (v := .agg #[.int .u8 69, .int .i64 pn, .int .i64 pa]) rfl (by kernel_rfl) (by kernel_rfl) (by kernel_rfl) (fun _ _ _ h => h) (Or.inl ⟨by rfl, fun w hSw => by obtain ⟨⟨a0, a1, a2⟩, a3, a4, a5⟩ := hSw; go_simp⟩) hHeld ?_
              try simp only [Act.put, List.getElem_toArray, List.getElem_cons_succ, List.getElem_cons_zero, List.setIfInBounds_toArray, List.set_cons_zero, List.set_cons_succ]
              refine wpAnyH_ready (rs := [1]) (by kernel_rfl) (by simp) ?_
              refine AllReadyH.cons rfl (fun K hK => ?_) AllReadyH.nil
              go_simp
              refine (C1).mono ?_
              rintro _ w13 ⟨rfl, b13⟩
              have Z1 := keepB6 b13 Z0
              refine hK.out _ _ Z1 (fun hHeld => ?_)
              clear hK K
              try simp only [Act.put, List.getElem_toArray, List.getElem_cons_succ, List.getElem_cons_zero, List.setIfInBounds_toArray, List.set_cons_zero, List.set_cons_succ]
              refine wpAnyH_ready (rs := [3]) (by kernel_rfl) (by simp) ?_
              refine AllReadyH.cons rfl (fun K hK => ?_) AllReadyH.nil
              go_simp
              refine (rank_e pn pa w13).mono ?_
              rintro _ w14 ⟨rfl, b14⟩
              have Z2 := keepB6 b14 Z1
              refine hK.out _ _ Z2 (fun hHeld => ?_)
              clear hK K
              try simp only [Act.put, List.getElem_toArray, List.getElem_cons_succ, List.getElem_cons_zero, List.setIfInBounds_toArray, List.set_cons_zero, List.set_cons_succ]
              refine wpAnyH_take (i := 4) (v := .bool true) rfl (by kernel_rfl) (by kernel_rfl) (by kernel_rfl) (fun _ _ _ h => h) (Or.inl ⟨by rfl, fun w hSw => by go_simp⟩) hHeld ?_
              try simp only [Act.put, List.getElem_toArray, List.getElem_cons_succ, List.getElem_cons_zero, List.setIfInBounds_toArray, List.set_cons_zero, List.set_cons_succ]
              refine wpAnyH_take (i := 5) (v := .bool true) rfl (by kernel_rfl) (by kernel_rfl) (by kernel_rfl) (fun _ _ _ h => h) (Or.inl ⟨by rfl, fun w hSw => by go_simp⟩) hHeld ?_
              try simp only [Act.put, List.getElem_toArray, List.getElem_cons_succ, List.getElem_cons_zero, List.setIfInBounds_toArray, List.set_cons_zero, List.set_cons_succ]
              refine wpAnyH_take (i := 6) (v := undef) rfl (by kernel_rfl) (by kernel_rfl) (by kernel_rfl) (fun _ _ _ h => h) (Or.inr ⟨by rfl, rfl⟩) hHeld ?_
              try simp only [Act.put, List.getElem_toArray, List.getElem_cons_succ, List.getElem_cons_zero, List.setIfInBounds_toArray, List.set_cons_zero, List.set_cons_succ]
              refine wpAnyH_take (i := 7) (v := undef) rfl (by kernel_rfl) (by kernel_rfl) (by kernel_rfl) (fun _ _ _ h => h) (Or.inr ⟨by rfl, rfl⟩) hHeld ?_
              try simp only [Act.put, List.getElem_toArray, List.getElem_cons_succ, List.getElem_cons_zero, List.setIfInBounds_toArray, List.set_cons_zero, List.set_cons_succ]
              refine wpAnyH_take (i := 8) (v := undef) rfl (by kernel_rfl) (by kernel_rfl) (by kernel_rfl) (fun _ _ _ h => h) (Or.inr ⟨by rfl, rfl⟩) hHeld ?_
              try simp only [Act.put, List.getElem_toArray, List.getElem_cons_succ, List.getElem_cons_zero, List.setIfInBounds_toArray, List.set_cons_zero, List.set_cons_succ]
              refine wpAnyH_take (i := 9) (v := undef) rfl (by kernel_rfl) (by kernel_rfl) (by kernel_rfl) (fun _ _ _ h => h) (Or.inr ⟨by rfl, rfl⟩) hHeld ?_
              try simp only [Act.put, List.getElem_toArray, List.getElem_cons_succ, List.getElem_cons_zero, List.setIfInBounds_toArray, List.set_cons_zero, List.set_cons_succ]
              refine wpAnyH_take (i := 10) (v := undef) rfl (by kernel_rfl) (by kernel_rfl) (by kernel_rfl) (fun _ _ _ h => h) (Or.inr ⟨by rfl, rfl⟩) hHeld ?_
              try simp only [Act.put, List.getElem_toArray, List.getElem_cons_succ, List.getElem_cons_zero, List.setIfInBounds_toArray, List.set_cons_zero, List.set_cons_succ]
              refine wpAnyH_take (i := 11) (v := undef) rfl (by kernel_rfl) (by kernel_rfl) (by kernel_rfl) (fun _ _ _ h => h) (Or.inr ⟨by rfl, rfl⟩) hHeld ?_
              try simp only [Act.put, List.getElem_toArray, List.getElem_cons_succ, List.getElem_cons_zero, List.setIfInBounds_toArray, List.set_cons_zero, List.set_cons_succ]
              refine wpAnyH_take (i := 12) (v := undef) rfl (by kernel_rfl) (by kernel_rfl) (by kernel_rfl) (fun _ _ _ h => h) (Or.inr ⟨by rfl, rfl⟩) hHeld ?_
              try simp only [Act.put, List.getElem_toArray, List.getElem_cons_succ, List.getElem_cons_zero, List.setIfInBounds_toArray, List.set_cons_zero, List.set_cons_succ]
              refine wpAnyH_take (i := 13) (v := undef) rfl (by kernel_rfl) (by kernel_rfl) (by kernel_rfl) (fun _ _ _ h => h) (Or.inr ⟨by rfl, rfl⟩) hHeld ?_
              try simp only [Act.put, List.getElem_toArray, List.getElem_cons_succ, List.getElem_cons_zero, List.setIfInBounds_toArray, List.set_cons_zero, List.set_cons_succ]
              refine wpAnyH_take (i := 14) (v := undef) rfl (by kernel_rfl) (by kernel_rfl) (by kernel_rfl) (fun _ _ _ h => h) (Or.inr ⟨by rfl, rfl⟩) hHeld ?_
              try simp only [Act.put, List.getElem_toArray, List.getElem_cons_succ, List.getElem_cons_zero, List.setIfInBounds_toArray, List.set_cons_zero, List.set_cons_succ]
              refine wpAnyH_take (i := 15) (v := undef) rfl (by kernel_rfl) (by kernel_rfl) (by kernel_rfl) (fun _ _ _ h => h) (Or.inr ⟨by rfl, rfl⟩) hHeld ?_
              try simp only [Act.put, List.getElem_toArray, List.getElem_cons_succ, List.getElem_cons_zero, List.setIfInBounds_toArray, List.set_cons_zero, List.set_cons_succ]
              refine wpAnyH_take (i := 16) (v := undef) rfl (by kernel_rfl) (by kernel_rfl) (by kernel_rfl) (fun _ _ _ h => h) (Or.inr ⟨by rfl, rfl⟩) hHeld ?_
              try simp only [Act.put, List.getElem_toArray, List.getElem_cons_succ, List.getElem_cons_zero, List.setIfInBounds_toArray, List.set_cons_zero, List.set_cons_succ]
              refine wpAnyH_take (i := 17) (v := undef) rfl (by kernel_rfl) (by kernel_rfl) (by kernel_rfl) (fun _ _ _ h => h) (Or.inr ⟨by rfl, rfl⟩) hHeld ?_
              try simp only [Act.put, List.getElem_toArray, List.getElem_cons_succ, List.getElem_cons_zero, List.setIfInBounds_toArray, List.set_cons_zero, List.set_cons_succ]
              refine wpAnyH_take (i := 18) (v := .bool true) rfl (by kernel_rfl) (by kernel_rfl) (by kernel_rfl) (fun _ _ _ h => h) (Or.inl ⟨by rfl, fun w hSw => by go_simp⟩) hHeld ?_
              try simp only [Act.put, List.getElem_toArray, List.getElem_cons_succ, List.getElem_cons_zero, List.setIfInBounds_toArray, List.set_cons_zero, List.set_cons_succ]
              refine wpAnyH_done (by kernel_rfl) ?_ _
              have B14 := Lib.hid (below_step (below_step BD.out b13) b14)
              clear Z0 Z1 Z2 b13 b14 C1 hHeld
              have HB : Hid (PBank.good l (j + 1) = false) := Lib.hid (by rw [HGN.out, Bool.eq_false_iff, ne_eq, PBank.lt_iff]; dsimp only; omega)
              go_wp2_with fail
              exact F.out _ _ ⟨fun h => (by cases h), fun h => (by have := h.all (j + 1) (by have := HL.out; omega); rw [HB.out] at this; cases this)⟩ (below_step B1.out B14.out)
          · rcases hkq with rfl | rfl
            · go_upto_region 11 with fail
              rw [HW12.out]
              clear HW12 hw11 t0 t1 t2 n0 n1 n2 hs11 q0 q1 q2 hsq fx0 fx1 hsf u0 u1 u2 hs10
              have Z0 : (w12.drew.cell? ⟨wr.heap.size, 0, none⟩ = some (.int .u8 67) ∧ w12.drew.cell? ⟨wr.heap.size, 1, none⟩ = some (.int .i64 pn) ∧ w12.drew.cell? ⟨wr.heap.size, 2, none⟩ = some (.int .i64 pa)) ∧ (w12.drew.cell? ⟨w10.heap.size, 0, none⟩ = some (.int .u8 69) ∧ w12.drew.cell? ⟨w10.heap.size, 1, none⟩ = some (.int .i64 qn) ∧ w12.drew.cell? ⟨w10.heap.size, 2, none⟩ = some (.int .i64 qa)) := ⟨⟨e0, e1, e2⟩, v0, v1, v2⟩
              have BD := Lib.hid (B12.out.drew)
              have C1 := rank_e qn qa w12.drew
              clear v0 v1 v2 e0 e1 e2
              refine wp_region_held_drew (S := fun w' => (w'.cell? ⟨wr.heap.size, 0, none⟩ = some (.int .u8 67) ∧ w'.cell? ⟨wr.heap.size, 1, none⟩ = some (.int .i64 pn) ∧ w'.cell? ⟨wr.heap.size, 2, none⟩ = some (.int .i64 pa)) ∧ (w'.cell? ⟨w10.heap.size, 0, none⟩ = some (.int .u8 69) ∧ w'.cell? ⟨w10.heap.size, 1, none⟩ = some (.int .i64 qn) ∧ w'.cell? ⟨w10.heap.size, 2, none⟩ = some (.int .i64 qa))) (by kernel_rfl) Z0 (fun hHeld => ?_)
              refine wpAnyH_take (i := 0) (v := .agg #[.int .u8 69, .int .i64 qn, .int .i64 qa]) rfl (by kernel_rfl) (by kernel_rfl) (by kernel_rfl) (fun _ _ _ h => h) (Or.inl ⟨by rfl, fun w hSw => by obtain ⟨⟨a0, a1, a2⟩, a3, a4, a5⟩ := hSw; go_simp⟩) hHeld ?_
              try simp only [Act.put, List.getElem_toArray, List.getElem_cons_succ, List.getElem_cons_zero, List.setIfInBounds_toArray, List.set_cons_zero, List.set_cons_succ]
              refine wpAnyH_take (i := 2) (v := .agg #[.int .u8 67, .int .i64 pn, .int .i64 pa]) rfl (by kernel_rfl) (by kernel_rfl) (by kernel_rfl) (fun _ _ _ h => h) (Or.inl ⟨by rfl, fun w hSw => by obtain ⟨⟨a0, a1, a2⟩, a3, a4, a5⟩ := hSw; go_simp⟩) hHeld ?_
              try simp only [Act.put, List.getElem_toArray, List.getElem_cons_succ, List.getElem_cons_zero, List.setIfInBounds_toArray, List.set_cons_zero, List.set_cons_succ]
              refine wpAnyH_ready (rs := [1]) (by kernel_rfl) (by simp) ?_
              refine AllReadyH.cons rfl (fun K hK => ?_) AllReadyH.nil
              go_simp
              refine (C1).mono ?_
              rintro _ w13 ⟨rfl, b13⟩
              have Z1 := keepB6 b13 Z0
              refine hK.out _ _ Z1 (fun hHeld => ?_)
              clear hK K
              try simp only [Act.put, List.getElem_toArray, List.getElem_cons_succ, List.getElem_cons_zero, List.setIfInBounds_toArray, List.set_cons_zero, List.set_cons_succ]
              refine wpAnyH_ready (rs := [3]) (by kernel_rfl) (by simp) ?_
              refine AllReadyH.cons rfl (fun K hK => ?_) AllReadyH.nil
              go_simp
              refine (rank_c pn pa w13).mono ?_
              rintro _ w14 ⟨rfl, b14⟩
              have Z2 := keepB6 b14 Z1
              refine hK.out _ _ Z2 (fun hHeld => ?_)
              clear hK K
              try simp only [Act.put, List.getElem_toArray, List.getElem_cons_succ, List.getElem_cons_zero, List.setIfInBounds_toArray, List.set_cons_zero, List.set_cons_succ]
              refine wpAnyH_take (i := 4) (v := .bool false) rfl (by kernel_rfl) (by kernel_rfl) (by kernel_rfl) (fun _ _ _ h => h) (Or.inl ⟨by rfl, fun w hSw => by go_simp⟩) hHeld ?_
              try simp only [Act.put, List.getElem_toArray, List.getElem_cons_succ, List.getElem_cons_zero, List.setIfInBounds_toArray, List.set_cons_zero, List.set_cons_succ]
              refine wpAnyH_take (i := 5) (v := .bool false) rfl (by kernel_rfl) (by kernel_rfl) (by kernel_rfl) (fun _ _ _ h => h) (Or.inl ⟨by rfl, fun w hSw => by go_simp⟩) hHeld ?_
              try simp only [Act.put, List.getElem_toArray, List.getElem_cons_succ, List.getElem_cons_zero, List.setIfInBounds_toArray, List.set_cons_zero, List.set_cons_succ]
              refine wpAnyH_take (i := 6) (v := .agg #[.int .u8 69, .int .i64 qn, .int .i64 qa]) rfl (by kernel_rfl) (by kernel_rfl) (by kernel_rfl) (fun _ _ _ h => h) (Or.inl ⟨by rfl, fun w hSw => by obtain ⟨⟨a0, a1, a2⟩, a3, a4, a5⟩ := hSw; go_simp⟩) hHeld ?_
              try simp only [Act.put, List.getElem_toArray, List.getElem_cons_succ, List.getElem_cons_zero, List.setIfInBounds_toArray, List.set_cons_zero, List.set_cons_succ]
              refine wpAnyH_take (i := 8) (v := .agg #[.int .u8 67, .int .i64 pn, .int .i64 pa]) rfl (by kernel_rfl) (by kernel_rfl) (by kernel_rfl) (fun _ _ _ h => h) (Or.inl ⟨by rfl, fun w hSw => by obtain ⟨⟨a0, a1, a2⟩, a3, a4, a5⟩ := hSw; go_simp⟩) hHeld ?_
              try simp only [Act.put, List.getElem_toArray, List.getElem_cons_succ, List.getElem_cons_zero, List.setIfInBounds_toArray, List.set_cons_zero, List.set_cons_succ]
              refine wpAnyH_ready (rs := [7]) (by kernel_rfl) (by simp) ?_
              refine AllReadyH.cons rfl (fun K hK => ?_) AllReadyH.nil
              go_simp
              refine (rank_e qn qa w14).mono ?_
              rintro _ w15 ⟨rfl, b15⟩
              have Z3 := keepB6 b15 Z2
              refine hK.out _ _ Z3 (fun hHeld => ?_)
              clear hK K
              try simp only [Act.put, List.getElem_toArray, List.getElem_cons_succ, List.getElem_cons_zero, List.setIfInBounds_toArray, List.set_cons_zero, List.set_cons_succ]
              refine wpAnyH_ready (rs := [9]) (by kernel_rfl) (by simp) ?_
              refine AllReadyH.cons rfl (fun K hK => ?_) AllReadyH.nil
              go_simp
              refine (rank_c pn pa w15).mono ?_
              rintro _ w16 ⟨rfl, b16⟩
              have Z4 := keepB6 b16 Z3
              refine hK.out _ _ Z4 (fun hHeld => ?_)
              clear hK K
              try simp only [Act.put, List.getElem_toArray, List.getElem_cons_succ, List.getElem_cons_zero, List.setIfInBounds_toArray, List.set_cons_zero, List.set_cons_succ]
              refine wpAnyH_take (i := 10) (v := .bool false) rfl (by kernel_rfl) (by kernel_rfl) (by kernel_rfl) (fun _ _ _ h => h) (Or.inl ⟨by rfl, fun w hSw => by go_simp⟩) hHeld ?_
              try simp only [Act.put, List.getElem_toArray, List.getElem_cons_succ, List.getElem_cons_zero, List.setIfInBounds_toArray, List.set_cons_zero, List.set_cons_succ]
              refine wpAnyH_take (i := 11) (v := .bool false) rfl (by kernel_rfl) (by kernel_rfl) (by kernel_rfl) (fun _ _ _ h => h) (Or.inl ⟨by rfl, fun w hSw => by go_simp⟩) hHeld ?_
              try simp only [Act.put, List.getElem_toArray, List.getElem_cons_succ, List.getElem_cons_zero, List.setIfInBounds_toArray, List.set_cons_zero, List.set_cons_succ]
              refine wpAnyH_take (i := 12) (v := undef) rfl (by kernel_rfl) (by kernel_rfl) (by kernel_rfl) (fun _ _ _ h => h) (Or.inr ⟨by rfl, rfl⟩) hHeld ?_
              try simp only [Act.put, List.getElem_toArray, List.getElem_cons_succ, List.getElem_cons_zero, List.setIfInBounds_toArray, List.set_cons_zero, List.set_cons_succ]
              refine wpAnyH_take (i := 13) (v := undef) rfl (by kernel_rfl) (by kernel_rfl) (by kernel_rfl) (fun _ _ _ h => h) (Or.inr ⟨by rfl, rfl⟩) hHeld ?_
              try simp only [Act.put, List.getElem_toArray, List.getElem_cons_succ, List.getElem_cons_zero, List.setIfInBounds_toArray, List.set_cons_zero, List.set_cons_succ]
              refine wpAnyH_take (i := 14) (v := undef) rfl (by kernel_rfl) (by kernel_rfl) (by kernel_rfl) (fun _ _ _ h => h) (Or.inr ⟨by rfl, rfl⟩) hHeld ?_
              try simp only [Act.put, List.getElem_toArray, List.getElem_cons_succ, List.getElem_cons_zero, List.setIfInBounds_toArray, List.set_cons_zero, List.set_cons_succ]
              refine wpAnyH_take (i := 15) (v := undef) rfl (by kernel_rfl) (by kernel_rfl) (by kernel_rfl) (fun _ _ _ h => h) (Or.inr ⟨by rfl, rfl⟩) hHeld ?_
              try simp only [Act.put, List.getElem_toArray, List.getElem_cons_succ, List.getElem_cons_zero, List.setIfInBounds_toArray, List.set_cons_zero, List.set_cons_succ]
              refine wpAnyH_take (i := 16) (v := undef) rfl (by kernel_rfl) (by kernel_rfl) (by kernel_rfl) (fun _ _ _ h => h) (Or.inr ⟨by rfl, rfl⟩) hHeld ?_
              try simp only [Act.put, List.getElem_toArray, List.getElem_cons_succ, List.getElem_cons_zero, List.setIfInBounds_toArray, List.set_cons_zero, List.set_cons_succ]
              refine wpAnyH_take (i := 17) (v := .bool false) rfl (by kernel_rfl) (by kernel_rfl) (by kernel_rfl) (fun _ _ _ h => h) (Or.inl ⟨by rfl, fun w hSw => by go_simp⟩) hHeld ?_
              try simp only [Act.put, List.getElem_toArray, List.getElem_cons_succ, List.getElem_cons_zero, List.setIfInBounds_toArray, List.set_cons_zero, List.set_cons_succ]
              refine wpAnyH_take (i := 18) (v := .bool false) rfl (by kernel_rfl) (by kernel_rfl) (by kernel_rfl) (fun _ _ _ h => h) (Or.inl ⟨by rfl, fun w hSw => by go_simp⟩) hHeld ?_
              try simp only [Act.put, List.getElem_toArray, List.getElem_cons_succ, List.getElem_cons_zero, List.setIfInBounds_toArray, List.set_cons_zero, List.set_cons_succ]
              refine wpAnyH_done (by kernel_rfl) ?_ _
              have B16 := Lib.hid (below_step (below_step (below_step (below_step BD.out b13) b14) b15) b16)
              clear Z0 Z1 Z2 Z3 Z4 b13 b14 b15 b16 C1 hHeld
              have HB : Hid (PBank.good l (j + 1) = true) := Lib.hid (by rw [HGN.out, PBank.lt_iff]; dsimp only; omega)
              go_wp2_with fail
              exact ⟨⟨j + 1 + 1, by congr 1, by omega, Lib.hid (fun i h => by
                by_cases e : i = j + 1
                · rw [e]; exact HB.out
                · exact J1.out i (by omega)), B16⟩, by simp [intOf]; omega⟩
            · go_upto_region 11 with fail
              rw [HW12.out]
              clear HW12 hw11 t0 t1 t2 n0 n1 n2 hs11 q0 q1 q2 hsq fx0 fx1 hsf u0 u1 u2 hs10
              have Z0 : (w12.drew.cell? ⟨wr.heap.size, 0, none⟩ = some (.int .u8 67) ∧ w12.drew.cell? ⟨wr.heap.size, 1, none⟩ = some (.int .i64 pn) ∧ w12.drew.cell? ⟨wr.heap.size, 2, none⟩ = some (.int .i64 pa)) ∧ (w12.drew.cell? ⟨w10.heap.size, 0, none⟩ = some (.int .u8 67) ∧ w12.drew.cell? ⟨w10.heap.size, 1, none⟩ = some (.int .i64 qn) ∧ w12.drew.cell? ⟨w10.heap.size, 2, none⟩ = some (.int .i64 qa)) := ⟨⟨e0, e1, e2⟩, v0, v1, v2⟩
              have BD := Lib.hid (B12.out.drew)
              have C1 := rank_c qn qa w12.drew
              clear v0 v1 v2 e0 e1 e2
              go_region_held3 (fun w' => (w'.cell? ⟨wr.heap.size, 0, none⟩ = some (.int .u8 67) ∧ w'.cell? ⟨wr.heap.size, 1, none⟩ = some (.int .i64 pn) ∧ w'.cell? ⟨wr.heap.size, 2, none⟩ = some (.int .i64 pa)) ∧ (w'.cell? ⟨w10.heap.size, 0, none⟩ = some (.int .u8 67) ∧ w'.cell? ⟨w10.heap.size, 1, none⟩ = some (.int .i64 qn) ∧ w'.cell? ⟨w10.heap.size, 2, none⟩ = some (.int .i64 qa)))
                (first
                  | with_reducible exact Z0
                  | with_reducible exact Z1
                  | with_reducible exact Z2
                  | with_reducible exact Z3
                  | with_reducible exact Z4)
                (first
                  | (go_at_call 21; (with_reducible refine C1.mono ?_); rintro _ w13 ⟨rfl, b13⟩; have Z1 := keepB6 b13 Z0; have C2 := rank_c pn pa w13)
                  | (go_at_call 21; (with_reducible refine C2.mono ?_); rintro _ w14 ⟨rfl, b14⟩; have Z2 := keepB6 b14 Z1; have C3 := rank_c qn qa w14)
                  | (go_at_call 21; (with_reducible refine C3.mono ?_); rintro _ w15 ⟨rfl, b15⟩; have Z3 := keepB6 b15 Z2; have C4 := rank_c pn pa w15)
                  | (go_at_call 21; (with_reducible refine C4.mono ?_); rintro _ w16 ⟨rfl, b16⟩; have Z4 := keepB6 b16 Z3))
              all_goals
                have B16 := Lib.hid (below_step (below_step (below_step (below_step BD.out b13) b14) b15) b16)
                clear Z0 Z1 Z2 Z3 Z4 b13 b14 b15 b16 C1 C2 C3 C4
                by_cases hg : pn ≤ qn
                · have HB : Hid (PBank.good l (j + 1) = false) := Lib.hid (by rw [HGN.out, Bool.eq_false_iff, ne_eq, PBank.lt_iff]; dsimp only; omega)
                  go_wp2_with fail
                  exact F.out _ _ ⟨fun h => (by cases h), fun h => (by have := h.all (j + 1) (by have := HL.out; omega); rw [HB.out] at this; cases this)⟩ (below_step B1.out B16.out)
                · have HB : Hid (PBank.good l (j + 1) = true) := Lib.hid (by rw [HGN.out, PBank.lt_iff]; dsimp only; omega)
                  go_wp2_with fail
                  exact ⟨⟨j + 1 + 1, by congr 1, by omega, Lib.hid (fun i h => by
                    by_cases e : i = j + 1
                    · rw [e]; exact HB.out
                    · exact J1.out i (by omega)), B16⟩, by simp [intOf]; omega⟩
    · obtain rfl : j = n := by omega
      have gj : ¬ (j : Int) < (j : Int) := by omega
      go_wp2_with fail
      exact F.out _ _ ⟨fun _ => ⟨by omega, by omega, by rw [HL.out]; omega, fun i h => J1.out i (by rw [← HL.out]; exact h)⟩, fun _ => rfl⟩ (below_step B1.out J2.out)
end Go.Proofs.YtbnnmakmgleikaaDoor
