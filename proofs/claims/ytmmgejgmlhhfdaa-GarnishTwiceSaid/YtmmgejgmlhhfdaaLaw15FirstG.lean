/-
  GarnishFirst: with unlike priorities, turned round, each order is paid the same.
-/
import Derived.Test.YtmmgejgmlhhfdaaLaw15MoreG
namespace Go.Proofs.Ytmmgejgmlhhfdaa
open Go.RowKit

theorem own_shape15 {w : World} {base e size n : Nat} {v : Value} {xs : List Value} (h : w.ownsRow base e size v n xs) : ∃ A cap, v = .slice A n cap := by
  rcases h.2 with ⟨rfl, rfl⟩ | ⟨g, cap, cur, rfl, _⟩
  · exact ⟨_, _, rfl⟩
  · exact ⟨_, _, rfl⟩
theorem sumN_front {f : Nat → Nat} : ∀ n, PSplit.sumN f (n + 1) = f 0 + PSplit.sumN (fun i => f (i + 1)) n
  | 0 => by simp [PSplit.sumN]
  | n + 1 => by
    have h := sumN_front (f := f) n
    show PSplit.sumN f (n + 1) + f (n + 1) = f 0 + (PSplit.sumN (fun i => f (i + 1)) n + f (n + 1))
    rw [h]; omega
theorem sumN_turn {f : Nat → Nat} : ∀ n, PSplit.sumN f n = PSplit.sumN (fun i => f (n - 1 - i)) n
  | 0 => rfl
  | n + 1 => by
    have h := sumN_turn (f := f) n
    rw [sumN_front (f := fun i => f (n + 1 - 1 - i))]
    show PSplit.sumN f n + f n = f n + PSplit.sumN (fun i => f (n - (i + 1))) n
    rw [h, Nat.add_comm]
    congr 1
    exact PSplit.sumN_congr (fun i _ => by congr 1; omega)
theorem turn_get {l : List PGa.Ord} {i : Nat} (hi : i < l.length) : l.reverse.getD i PGa.o0 = l.getD (l.length - 1 - i) PGa.o0 := by
  simp [List.getD, List.getElem?_reverse hi]
theorem pr_turn {l : List PGa.Ord} {i : Nat} (hi : i < l.length) : PGa.pr l.reverse i = PGa.pr l (l.length - 1 - i) := by unfold PGa.pr; rw [turn_get hi]
theorem wn_turn {l : List PGa.Ord} {i : Nat} (hi : i < l.length) : PGa.wn l.reverse i = PGa.wn l (l.length - 1 - i) := by unfold PGa.wn; rw [turn_get hi]
theorem below_turn (l : List PGa.Ord) (p : Int) : PGa.below l.reverse p = PGa.below l p := by
  unfold PGa.below
  rw [List.length_reverse, sumN_turn (f := fun k => if PGa.pr l k < p then PGa.wn l k else 0)]
  exact PSplit.sumN_congr (fun i hi => by rw [pr_turn hi, wn_turn hi])
theorem served_turn {T : Nat} {l : List PGa.Ord} (h : PGa.Unlike l l.length) {i : Nat} (hi : i < l.length) : PGa.served T l.reverse i = PGa.served T l (l.length - 1 - i) := by
  have hi2 : l.length - 1 - i < l.length := by omega
  rw [PGa.served_alone hi2 (h.alone hi2), PGa.served_alone (l := l.reverse) (by simpa using hi) (fun j hj hne => by
    have hj2 : j < l.length := by simpa using hj
    rw [pr_turn hj2, pr_turn hi]
    exact h.alone hi2 _ (by omega) (by omega)), below_turn, pr_turn hi, wn_turn hi]
theorem err_turn (net prot : Int) (l : List PGa.Ord) : PGa.err net prot l.reverse = PGa.err net prot l := by
  unfold PGa.err
  rw [List.length_reverse, List.any_reverse, List.any_reverse]

set_option maxHeartbeats 6400000 in
set_option maxRecDepth 100000 in
theorem lgfirst_in {A : Option Addr} {n ca : Nat} {l : List PGa.Ord} {w : World} {net prot : Int} (h : SlO w A n l) (h8 : n ≤ 8) :
    Calls Try.prog 9 #[.int .i64 net, .int .i64 prot, .slice A n ca] w fun e w' => e = .returned (.bool true) ∧ Below w.heap.size w w' := by
  have H := Lib.hid h
  have hl := Lib.hid h.len
  have i8 : ¬ (8 : Int) < (n : Int) := by omega
  obtain ⟨E, hE⟩ : ∃ E, PGa.err net prot l = E := ⟨_, rfl⟩
  obtain ⟨T, hT⟩ : ∃ T, PGa.there net prot = T := ⟨_, rfl⟩
  have C1 : Hid (∀ w', Below w.heap.size w w' → Calls Try.prog 11 #[.int .i64 net, .int .i64 prot, .slice A n ca] w' (ServeA E n (PSplit.wlist (PGa.served T l) n) w')) := Lib.hid (fun w' hb => by
    have := gaserve_any (cap := ca) (net := net) (prot := prot) (h.on hb)
    rw [hE, hT] at this; exact this)
  have C2 : Hid (∀ w' V c, SlO w' V n l.reverse → Calls Try.prog 11 #[.int .i64 net, .int .i64 prot, .slice V n c] w' (ServeA E n (PSplit.wlist (PGa.served T l.reverse) n) w')) := Lib.hid (fun w' V c hs => by
    have := gaserve_any (cap := c) (net := net) (prot := prot) hs
    rw [err_turn, hE, hT] at this; exact this)
  have HIN : Hid (∀ i (h : i < l.reverse.length), PGa.In l.reverse[i]) := Lib.hid (fun i hi => by
    have hm : l.reverse[i] ∈ l := List.mem_reverse.1 (List.getElem_mem hi)
    obtain ⟨j, hj, e⟩ := List.getElem_of_mem hm
    rw [← e]; exact h.2.1 j hj)
  clear h hE hT
  go_enter Try.func9, Try.ntmps9
  go_wp2_with fail
  go_loopw [22] (fun i wr => ∃ k : Nat, k ≤ n ∧ i = .int .i64 k ∧ Hid (PGa.Unlike l k) ∧ Hid (Below w.heap.size w wr)) (fun i _ => n - (intOf i).toNat)
  case atStart => exact ⟨0, Nat.zero_le _, rfl, (show Hid _ from fun i h => by omega), (show Hid _ from Below.refl _ _)⟩
  case round =>
    obtain ⟨k, hk, rfl, HU, HW⟩ := hrel
    by_cases hlt : k < n
    · have i1 : (0 : Int) ≤ (k : Int) := by omega
      have i2 : (k : Int) < (n : Int) := by omega
      go_wp2_with fail
      go_loopw [26] (fun i wy => ∃ j : Nat, j ≤ k ∧ i = .int .i64 j ∧ Hid (∀ t, t < j → PGa.pr l k ≠ PGa.pr l t) ∧ Hid (Below w.heap.size w wy)) (fun i _ => k - (intOf i).toNat)
      case atStart => exact ⟨0, Nat.zero_le _, rfl, (show Hid _ from fun i h => by omega), HW⟩
      case round =>
        obtain ⟨j, hj, rfl, HJ, HY⟩ := hrel
        by_cases hjt : j < k
        · obtain ⟨b, off, rfl, hc⟩ := (H.out.on HY.out).cells hlt
          have hkl : k < l.length := by rw [hl.out]; exact hlt
          have hjl : j < l.length := by omega
          obtain ⟨-, c1, -, -⟩ := hc k hkl
          obtain ⟨-, c2, -, -⟩ := hc j hjl
          obtain ⟨p, hp⟩ : ∃ p, l[k].p = p := ⟨_, rfl⟩
          obtain ⟨q, hq⟩ : ∃ q, l[j].p = q := ⟨_, rfl⟩
          rw [hp] at c1; rw [hq] at c2
          have hpk : PGa.pr l k = p := by unfold PGa.pr; rw [← hp]; simp [List.getD, hkl]
          have hpj : PGa.pr l j = q := by unfold PGa.pr; rw [← hq]; simp [List.getD, hjl]
          have i3 : (0 : Int) ≤ (j : Int) := by omega
          have i4 : (j : Int) < (n : Int) := by omega
          have i5 : (j : Int) < (k : Int) := by omega
          clear hc hp hq
          by_cases he : p = q
          · have e5 : (p == q) = true := by rw [he]; exact beq_self_eq_true _
            clear he hpk hpj
            go_wp2_with fail
            go_quiet (fail)
            have BQ : Hid (Below w.heap.size w (wr.drewN nq)) := Lib.hid (below_drewN HY.out _)
            generalize wr.drewN nq = wq at *
            clear c1 c2
            go_wp2_with fail
            refine (awake_any _).mono ?_
            rintro _ w9 ⟨rfl, b9⟩
            have B9 := Lib.hid (below_step BQ.out b9)
            clear b9
            go_wp2_with fail
            go_ret
            exact ⟨rfl, B9.out⟩
          · have e5 : (p == q) = false := beq_eq_false_iff_ne.2 he
            have HJ2 : Hid (∀ t, t < j + 1 → PGa.pr l k ≠ PGa.pr l t) := Lib.hid (fun t ht => by
              by_cases e : t = j
              · subst e; rw [hpk, hpj]; exact he
              · exact HJ.out t (by omega))
            clear he hpk hpj
            go_wp2_with fail
            go_quiet (fail)
            have BQ : Hid (Below w.heap.size w (wr.drewN nq)) := Lib.hid (below_drewN HY.out _)
            generalize wr.drewN nq = wq at *
            clear c1 c2
            go_wp2_with fail
            exact ⟨⟨j + 1, by omega, by congr 1, HJ2, BQ⟩, by simp [intOf]; omega⟩
        · obtain rfl : j = k := by omega
          have HU2 : Hid (PGa.Unlike l (j + 1)) := Lib.hid (fun i hi t ht => by
            by_cases e : i = j
            · subst e; exact HJ.out t ht
            · exact HU.out i (by omega) t ht)
          go_wp2_with fail
          exact ⟨⟨j + 1, by omega, by congr 1, HU2, HY⟩, by simp [intOf]; omega⟩
    · obtain rfl : k = n := by omega
      go_wp2_with fail
      go_loopw [9, 10] (fun v i wy => ∃ (j : Nat) (V : Option Addr) (cv : Nat) (t : Int), j ≤ k ∧ v = .slice V j cv ∧ i = .int .i64 t ∧ t = (k : Int) - 1 - (j : Int) ∧ Hid (wy.ownsRow w.heap.size 35 4 (.slice V j cv) (l.reverse.take j).length (ordR.cells (l.reverse.take j))) ∧ Hid (Below w.heap.size w wy)) (fun _ i _ => (intOf i + 1).toNat)
      case atStart =>
        refine ⟨0, none, 0, (k : Int) - 1, Nat.zero_le _, rfl, ?_, by omega, (show Hid _ from ⟨rfl, .inl ⟨rfl, rfl⟩⟩), HW⟩
        first | rfl | (congr 1; rw [IntKind.wrap_i64]; omega) | (simp; omega)
      case round =>
        obtain ⟨j, V, cv, t, hj, rfl, rfl, ht, HO, HY⟩ := hrel
        by_cases hjt : j < k
        · obtain ⟨tn, htn⟩ : ∃ tn : Nat, k - 1 - j = tn := ⟨_, rfl⟩
          obtain rfl : t = (tn : Int) := by omega
          have htl : tn < l.length := by rw [hl.out]; omega
          obtain ⟨b, off, rfl, hc⟩ := (H.out.on HY.out).cells (show tn < k by omega)
          obtain ⟨d0, d1, d2, d3⟩ := hc tn htl
          have hnext : l.reverse.take (j + 1) = l.reverse.take j ++ [l[tn]] := by
            have hjr : j < l.reverse.length := by rw [List.length_reverse, hl.out]; exact hjt
            rw [List.take_succ_eq_append_getElem hjr]
            congr 2
            rw [List.getElem_reverse]
            congr 1
            rw [hl.out]; omega
          have hlt : (l.reverse.take j).length = j := by rw [List.length_take, List.length_reverse, hl.out]; omega
          obtain ⟨o, ho⟩ : ∃ o, l[tn] = o := ⟨_, rfl⟩
          rw [ho] at d0 d1 d2 d3 hnext
          obtain ⟨LT, hLT⟩ : ∃ q, l.reverse.take j = q := ⟨_, rfl⟩
          rw [hLT] at HO hnext hlt
          have HNX := Lib.hid hnext; have HLT := Lib.hid hlt
          obtain ⟨oc, op, ocl, oba⟩ := o
          have hsz := HY.out.size
          have i1 : (0 : Int) ≤ (tn : Int) := by omega
          have i2 : (tn : Int) < (k : Int) := by omega
          have i3 : IntKind.i64.wrap ((tn : Int) - 1) = (tn : Int) - 1 := by rw [IntKind.wrap_i64]; omega
          have HT := Lib.hid ht
          clear hc ho hnext hlt hLT htn ht
          go_wp2_with (at_builtin; refine append_rec ord_recTy rfl _ _ rfl w.heap.size (.slice V j cv) LT ⟨oc, op, ocl, oba⟩ (by rfl) HO.out (by rfl) (by rw [HLT.out]; omega) hsz ?_)
          intro p' w6 hown6 hb6
          rw [HLT.out] at hown6
          obtain ⟨P1, cpn, rfl⟩ := own_shape15 hown6
          have HO7 : Hid (w6.ownsRow w.heap.size 35 4 (.slice P1 (j + 1) cpn) (l.reverse.take (j + 1)).length (ordR.cells (l.reverse.take (j + 1)))) := Lib.hid (by
            rw [HNX.out, List.length_append, HLT.out]
            exact hown6)
          have HY7 := Lib.hid (HY.out.trans hb6)
          clear hown6 hb6 d0 d1 d2 d3 HO HY
          go_wp2_with fail
          exact ⟨⟨j + 1, P1, cpn, (tn : Int) - 1, by omega, rfl, rfl, by have := HT.out; omega, HO7, HY7⟩, by first | (simp [intOf]; done) | (simp [intOf]; omega)⟩
        · obtain rfl : j = k := by omega
          obtain rfl : t = -1 := by omega
          have hw : (l.reverse.take j) = l.reverse := List.take_of_length_le (by rw [List.length_reverse, hl.out]; exact Nat.le_refl _)
          have hlr : l.reverse.length = j := by rw [List.length_reverse, hl.out]
          have hS : SlO wr V j l.reverse := by
            have := HO.out
            rw [hw, hlr] at this
            obtain ⟨A', cap', e, _, _, hx⟩ := slr_of_own (R := ordR) this hlr
            injection e with e1 e2 e3
            subst e1
            exact ⟨hx, HIN.out, by omega⟩
          have HSV := Lib.hid hS
          clear hw hlr hS ht HO HIN
          go_wp2_with fail
          refine (C1.out _ HY.out).mono ?_
          rintro _ w3 ⟨S1, m1, c1, rfl, b3, y1, z1⟩
          have B3 := Lib.hid (below_step HY.out b3)
          have Y1 := Lib.hid y1; have Z1 := Lib.hid z1; have HSV3 := Lib.hid (HSV.out.on b3)
          clear b3 y1 z1 C1 HSV
          go_wp2_with fail
          refine (C2.out _ _ _ HSV3.out).mono ?_
          rintro _ w4 ⟨S2, m2, c2, rfl, b4, y2, z2⟩
          have B4 := Lib.hid (below_step B3.out b4)
          have eE : (E != E) = false := bne_self_eq_false _
          by_cases f1 : E = 0
          · obtain ⟨rfl, s1, -⟩ := Y1.out f1
            obtain ⟨rfl, s2, -⟩ := y2 f1
            have S1' := Lib.hid (s1.on b4); have S2' := Lib.hid s2
            have HUL : Hid (PGa.Unlike l l.length) := Lib.hid (by rw [hl.out]; exact HU.out)
            subst f1
            clear s1 s2 y2 z2 b4 Y1 Z1 C2
            have e0 : ((0 : Int) == 0) = true := rfl
            have e3 : ((m2 : Int) != (m2 : Int)) = false := bne_self_eq_false _
            go_wp2_with fail
            clear e0 e3 eE
            go_loopw [94] (fun i wy => ∃ q : Nat, q ≤ m2 ∧ i = .int .i64 q ∧ Hid (Below w4.heap.size w4 wy)) (fun i _ => m2 - (intOf i).toNat)
            case atStart => exact ⟨0, Nat.zero_le _, rfl, (show Hid _ from Below.refl _ _)⟩
            case round =>
              obtain ⟨q, hq, rfl, HZ⟩ := hrel
              by_cases hqt : q < m2
              · obtain ⟨r, hr⟩ : ∃ r : Nat, m2 - 1 - q = r := ⟨_, rfl⟩
                have hrm : r < m2 := by omega
                obtain ⟨b1, o1, rfl, h1⟩ := ga_at (S1'.out.on HZ.out) hqt
                obtain ⟨b2, o2, rfl, h2⟩ := ga_at (S2'.out.on HZ.out) hrm
                have c1 := h1 q hqt; have c2 := h2 r hrm
                rw [PSplit.wlist_get hqt] at c1
                rw [PSplit.wlist_get hrm, served_turn HUL.out (by rw [hl.out]; exact hrm), show l.length - 1 - r = q by rw [hl.out]; omega] at c2
                obtain ⟨x1, hx1⟩ : ∃ x : Int, ((PGa.served T l q : Nat) : Int) = x := ⟨_, rfl⟩
                rw [hx1] at c1 c2
                have e5 : (x1 != x1) = false := bne_self_eq_false _
                have i3 : (0 : Int) ≤ (q : Int) := by omega
                have i4 : (q : Int) < (m2 : Int) := by omega
                have i5 : IntKind.i64.wrap ((m2 : Int) - 1) = (m2 : Int) - 1 := by rw [IntKind.wrap_i64]; omega
                have i6 : IntKind.i64.wrap ((m2 : Int) - 1 - (q : Int)) = (r : Int) := by rw [IntKind.wrap_i64]; omega
                have i7 : (0 : Int) ≤ (r : Int) := by omega
                have i8 : (r : Int) < (m2 : Int) := by omega
                clear h1 h2 hx1 hr
                go_wp2_with fail
                go_quiet (fail)
                have BQ : Hid (Below w4.heap.size w4 (wr.drewN nq)) := Lib.hid (below_drewN HZ.out _)
                generalize wr.drewN nq = wq at *
                clear c1 c2
                go_wp2_with fail
                exact ⟨⟨q + 1, by omega, by congr 1, BQ⟩, by simp [intOf]; omega⟩
              · obtain rfl : q = m2 := by omega
                have BZ := Lib.hid (below_step B4.out HZ.out)
                go_wp2_with fail
                refine (awake_any _).mono ?_
                rintro _ w9 ⟨rfl, b9⟩
                have B9 := Lib.hid (below_step BZ.out b9)
                clear b9
                go_wp2_with fail
                go_ret
                exact ⟨rfl, B9.out⟩
          · obtain ⟨rfl, -⟩ := Z1.out f1
            obtain ⟨rfl, -⟩ := z2 f1
            have e0 : (E == 0) = false := beq_eq_false_iff_ne.2 f1
            clear y2 z2 b4 Y1 Z1 C2 f1
            go_wp2_with fail
            go_loopw [94] (fun i wy => i = .int .i64 0 ∧ Hid (Below w4.heap.size w4 wy)) (fun i _ => 0)
            case atStart => exact ⟨rfl, (show Hid _ from Below.refl _ _)⟩
            case round =>
              obtain ⟨rfl, HZ⟩ := hrel
              have BZ := Lib.hid (below_step B4.out HZ.out)
              go_wp2_with fail
              refine (awake_any _).mono ?_
              rintro _ w9 ⟨rfl, b9⟩
              have B9 := Lib.hid (below_step BZ.out b9)
              clear b9
              go_wp2_with fail
              go_ret
              exact ⟨rfl, B9.out⟩

set_option maxHeartbeats 3200000 in
theorem lgfirst_out {A : Option Addr} {n ca : Nat} {w : World} {net prot : Int} (h8 : ¬ n ≤ 8) :
    Calls Try.prog 9 #[.int .i64 net, .int .i64 prot, .slice A n ca] w fun e w' => e = .returned (.bool true) ∧ Below w.heap.size w w' := by
  have i8 : (8 : Int) < (n : Int) := by omega
  clear h8
  go_enter Try.func9, Try.ntmps9
  go_wp2_with fail
  refine (awake_any _).mono ?_
  rintro _ w9 ⟨rfl, b9⟩
  have B9 := Lib.hid b9
  clear b9
  go_wp2_with fail
  go_ret
  exact ⟨rfl, B9.out⟩
theorem lgfirst_walk (net prot : Int) (A : Option Addr) (n ca : Nat) (l : List PGa.Ord) (w : World) (_ : (Lit.int .i64 net).wf = true) (_ : (Lit.int .i64 prot).wf = true) (h : SlO w A n l) :
    Calls Try.prog 9 #[.int .i64 net, .int .i64 prot, .slice A n ca] w fun e w' => e = .returned (.bool true) ∧ Below w.heap.size w w' := by
  by_cases h8 : n ≤ 8
  · exact lgfirst_in h h8
  · exact lgfirst_out h8
end Go.Proofs.Ytmmgejgmlhhfdaa
