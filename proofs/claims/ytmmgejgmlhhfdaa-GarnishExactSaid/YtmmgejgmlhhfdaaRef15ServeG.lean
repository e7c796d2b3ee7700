/-
  What the reference of layer 15 answers: what each order is paid.
-/
import Derived.Test.YtmmgejgmlhhfdaaRef15MayG
import Derived.Test.YtmmgejgmlhhfdaaGaRefMath
import Derived.Test.YtmmgejgmlhhfdaaGA
import Derived.Test.YtmmgejgmlhhfdaaRef04Split
import Derived.Test.YtmmgejgmlhhfdaaRowsApart
import Derived.Deep.QuietTactic
import Derived.BigQuiet
namespace Go.Proofs.Ytmmgejgmlhhfdaa
open Go.RowKit

/-- The wants of one priority among the first k. -/
def PGa.ws (l : List PGa.Ord) (p : Int) (k : Nat) : List Int := (PGa.idx l p k).map (fun j => ((PGa.wn l j : Nat) : Int))
theorem ws_yes {l : List PGa.Ord} {p : Int} {k : Nat} (h : PGa.pr l k = p) : PGa.ws l p (k + 1) = PGa.ws l p k ++ [((PGa.wn l k : Nat) : Int)] := by unfold PGa.ws; rw [PGa.idx_yes h]; simp
theorem ws_no {l : List PGa.Ord} {p : Int} {k : Nat} (h : PGa.pr l k ≠ p) : PGa.ws l p (k + 1) = PGa.ws l p k := by unfold PGa.ws; rw [PGa.idx_no h]
theorem ws_len (l : List PGa.Ord) (p : Int) (k : Nat) : (PGa.ws l p k).length = (PGa.idx l p k).length := by simp [PGa.ws]
theorem ws_get {l : List PGa.Ord} {p : Int} {k j : Nat} (h : j < (PGa.idx l p k).length) : (PGa.ws l p k).getD j 0 = ((PGa.wn l ((PGa.idx l p k).getD j 0) : Nat) : Int) := by simp [PGa.ws, List.getD, h]
theorem ws_in64 {l : List PGa.Ord} (hok : PGa.Ok l) (p : Int) (k : Nat) : In64 (PGa.ws l p k) := fun i hi => by
  rw [ws_len] at hi
  rw [ws_get hi]
  have := hok.wn_le ((PGa.idx l p k).getD i 0)
  omega
/-- The wants ahead, among the first k. -/
def PGa.bel (l : List PGa.Ord) (p : Int) (k : Nat) : Nat := PSplit.sumN (fun j => if PGa.pr l j < p then PGa.wn l j else 0) k
theorem bel_next (l : List PGa.Ord) (p : Int) (k : Nat) : PGa.bel l p (k + 1) = PGa.bel l p k + if PGa.pr l k < p then PGa.wn l k else 0 := rfl
theorem bel_le {l : List PGa.Ord} (hok : PGa.Ok l) (p : Int) {k : Nat} (hk : k ≤ 8) : PGa.bel l p k ≤ 9007199254740992 := by
  have := sumN_upto_const (f := fun j => if PGa.pr l j < p then PGa.wn l j else 0) (v := 1125899906842624) (fun j => by split; exact hok.wn_le j; omega) k
  unfold PGa.bel; omega
theorem grp_le8 {l : List PGa.Ord} (hok : PGa.Ok l) (p : Int) {k : Nat} (hk : k ≤ 8) : PSplit.sumN (PGa.grp l p) k ≤ 9007199254740992 := by
  have := sumN_upto_const (fun j => hok.grp_le p j) k
  omega
/-- Two rows of the call's own, apart. -/
structure Two15 (w : World) (base : Nat) (u v : Value) (n k : Nat) (xs ys : List Int) : Prop where
  le : base ≤ w.heap.size
  own : w.ownsRow base 3 1 u n (cellsOfInts xs)
  own' : w.ownsRow base 3 1 v k (cellsOfInts ys)
  ap : Ap u v
theorem Two15.on {w w' : World} {base n k : Nat} {u v : Value} {xs ys : List Int} (h : Two15 w base u v n k xs ys) (hb : Below w.heap.size w w') : Two15 w' base u v n k xs ys := ⟨Nat.le_trans h.le hb.size, own_below h.own hb, own_below h.own' hb, h.ap⟩

theorem PSplit.wlist_eq {f : Nat → Nat} {l : List Int} {k : Nat} (hl : l.length = k) (h : ∀ i, i < k → l.getD i 0 = ((f i : Nat) : Int)) : l = PSplit.wlist f k := by
  apply List.ext_getElem
  · rw [hl, PSplit.wlist_len]
  · intro i h1 h2
    have := h i (by omega)
    simp [List.getD, h1] at this
    rw [this]
    simp [PSplit.wlist]
theorem wn_at_le {l : List PGa.Ord} {t : Nat} (ht : t < l.length) : PGa.wn l t ≤ PGa.atP l (PGa.pr l t) := by
  have := PSplit.le_sumN (f := PGa.grp l (PGa.pr l t)) ht
  simp [PGa.grp] at this
  exact this
theorem served_1 {T : Nat} {D : Int} {l : List PGa.Ord} {t : Nat} (hT : (T : Int) = max D 0) (h : ((PGa.atP l (PGa.pr l t) : Nat) : Int) ≤ D - ((PGa.below l (PGa.pr l t) : Nat) : Int)) : PGa.served T l t = PGa.wn l t := by
  unfold PGa.served
  rw [if_pos (by omega)]
theorem served_2 {T : Nat} {D : Int} {l : List PGa.Ord} {t : Nat} (ht : t < l.length) (hT : (T : Int) = max D 0) (h : D - ((PGa.below l (PGa.pr l t) : Nat) : Int) ≤ 0) : PGa.served T l t = 0 := by
  have h1 := wn_at_le ht
  unfold PGa.served
  have e : T - PGa.below l (PGa.pr l t) = 0 := by omega
  rw [e]
  split
  · omega
  · have := PSplit.part_le (T := 0) (S := PGa.atP l (PGa.pr l t)) (w := PGa.grp l (PGa.pr l t)) (n := l.length) (i := t) rfl (by omega) ht
    omega
theorem served_3 {T : Nat} {D : Int} {l : List PGa.Ord} {t : Nat} (ht : t < l.length) (hT : (T : Int) = max D 0) (h : ¬ ((PGa.atP l (PGa.pr l t) : Nat) : Int) ≤ D - ((PGa.below l (PGa.pr l t) : Nat) : Int)) (h0 : 0 < D - ((PGa.below l (PGa.pr l t) : Nat) : Int)) :
    ∃ R : Nat, (R : Int) = D - ((PGa.below l (PGa.pr l t) : Nat) : Int) ∧ PGa.served T l t = PSplit.part R (PGa.atP l (PGa.pr l t)) (fun j => PGa.wn l ((PGa.idx l (PGa.pr l t) l.length).getD j 0)) (PGa.idx l (PGa.pr l t) l.length).length (PGa.idx l (PGa.pr l t) t).length ∧
      PSplit.sumN (fun j => PGa.wn l ((PGa.idx l (PGa.pr l t) l.length).getD j 0)) (PGa.idx l (PGa.pr l t) l.length).length = PGa.atP l (PGa.pr l t) ∧ 0 < PGa.atP l (PGa.pr l t) := by
  refine ⟨T - PGa.below l (PGa.pr l t), by omega, ?_, ?_, by omega⟩
  · have := (PGa.part_idx (T := T - PGa.below l (PGa.pr l t)) (n := l.length) (i := t) (p := PGa.pr l t) ht rfl (show 0 < PGa.atP l (PGa.pr l t) by omega)).1
    unfold PGa.served
    rw [if_neg (by omega)]
    exact this
  · exact (PGa.part_idx (T := 0) (n := l.length) (i := t) (p := PGa.pr l t) ht rfl (show 0 < PGa.atP l (PGa.pr l t) by omega)).2

set_option maxHeartbeats 6400000 in
set_option maxRecDepth 100000 in
theorem refgaserve {A : Option Addr} {n cap : Nat} {l : List PGa.Ord} {w : World} {net prot : Int} (h : SlO w A n l) (he : PGa.err net prot l = 0) :
    Calls Try.prog 14 #[.int .i64 net, .int .i64 prot, .slice A n cap] w fun e w' => ∃ B c, e = .returned (.slice B n c) ∧ Sl w' B n (PSplit.wlist (PGa.served (PGa.there net prot) l) n) ∧ Below w.heap.size w w' := by
  obtain ⟨h8, p0, p1, n0, n1, hok⟩ := PGa.err_ok he
  have hlen := h.len
  have hn : n ≤ 8 := by omega
  have H := Lib.hid h
  have hl := Lib.hid hlen
  have HOK := Lib.hid hok
  obtain ⟨T, hT⟩ : ∃ T, PGa.there net prot = T := ⟨_, rfl⟩
  obtain ⟨D, hD⟩ : ∃ D, net - prot = D := ⟨_, rfl⟩
  have hTD : (T : Int) = max D 0 := by rw [← hT, ← hD]; unfold PGa.there; omega
  have wD : IntKind.i64.wrap (net - prot) = D := by rw [IntKind.wrap_i64]; omega
  have rD : -2251799813685248 ≤ D ∧ D ≤ 2251799813685248 := by omega
  rw [hT]
  have HTD := Lib.hid hTD
  clear h he h8 hok hT hlen p0 p1 n0 n1 hTD hD
  go_enter Try.func14, Try.ntmps14
  go_wp2_with fail
  go_loopw [7, 8] (fun v i wr => ∃ (t : Nat) (V : Option Addr) (cv : Nat), t ≤ n ∧ v = .slice V t cv ∧ i = .int .i64 t ∧ Hid (wr.ownsRow w.heap.size 3 1 (.slice V t cv) t (cellsOfInts (PSplit.wlist (PGa.served T l) t))) ∧ Hid (Below w.heap.size w wr)) (fun _ i _ => n - (intOf i).toNat)
  case atStart => exact ⟨0, none, 0, Nat.zero_le _, rfl, rfl, (show Hid _ from ⟨rfl, .inl ⟨rfl, rfl⟩⟩), (show Hid _ from Below.refl _ _)⟩
  case round =>
    obtain ⟨t, V, cv, ht, rfl, rfl, HO, HW⟩ := hrel
    by_cases hlt : t < n
    · obtain ⟨p, hp⟩ : ∃ p, PGa.pr l t = p := ⟨_, rfl⟩
      have HPR := Lib.hid hp
      have i1 : (0 : Int) ≤ (t : Int) := by omega
      have i2 : (t : Int) < (n : Int) := by omega
      have htl : t < l.length := by rw [hl.out]; exact hlt
      have H0 : Hid (Two15 wr w.heap.size (.slice V t cv) (.slice none 0 0) t 0 (PSplit.wlist (PGa.served T l) t) []) := Lib.hid ⟨HW.out.size, HO.out, ⟨rfl, .inl ⟨rfl, rfl⟩⟩, fun k hk hu => by cases hu⟩
      clear hp HO
      go_wp2_with fail
      go_loopw [9, 10, 11, 12, 13] (fun d u s m k wy => ∃ (j me : Nat) (U : Option Addr) (cu : Nat), j ≤ n ∧ d = .int .i64 (D - ((PGa.bel l p j : Nat) : Int)) ∧ u = .slice U (PGa.idx l p j).length cu ∧ s = .int .i64 ((PSplit.sumN (PGa.grp l p) j : Nat) : Int) ∧ m = .int .i64 (me : Int) ∧ k = .int .i64 j ∧ Hid (t < j → me = (PGa.idx l p t).length) ∧
          Hid (Two15 wy w.heap.size (.slice V t cv) (.slice U (PGa.idx l p j).length cu) t (PGa.idx l p j).length (PSplit.wlist (PGa.served T l) t) (PGa.ws l p j)) ∧ Hid (Below w.heap.size w wy)) (fun _ _ _ _ k _ => n - (intOf k).toNat)
      case atStart =>
        refine ⟨0, 0, none, 0, Nat.zero_le _, ?_, rfl, rfl, rfl, rfl, (show Hid _ from fun h => by omega), H0, HW⟩
        first | rfl | simp [PGa.bel, PSplit.sumN]
      case round =>
        obtain ⟨j, me, U, cu, hj, rfl, rfl, rfl, rfl, rfl, HME, HT, HY⟩ := hrel
        by_cases hjt : j < n
        · obtain ⟨b, off, rfl, hc⟩ := (H.out.on HY.out).cells hlt
          have hjl : j < l.length := by rw [hl.out]; exact hjt
          obtain ⟨-, e1, -, -⟩ := hc t htl
          obtain ⟨d0, d1, d2, d3⟩ := hc j hjl
          have hpt : l[t].p = p := by rw [← HPR.out]; unfold PGa.pr; simp [List.getD, htl]
          have hpj : PGa.pr l j = l[j].p := by unfold PGa.pr; simp [List.getD, hjl]
          have hwn := HOK.out.wn hjl
          have hw50 := HOK.out.wn_le j
          rw [hpt] at e1
          obtain ⟨o, ho⟩ : ∃ o, l[j] = o := ⟨_, rfl⟩
          rw [ho] at d0 d1 d2 d3 hpj hwn
          obtain ⟨oc, op, ocl, oba⟩ := o
          have d0' : wr.cell? ⟨b, off + j * 4, none⟩ = some (.int .i64 oc) := d0
          have d1' : wr.cell? ⟨b, off + j * 4 + 1, none⟩ = some (.int .i64 op) := d1
          have d2' : wr.cell? ⟨b, off + j * 4 + 2, none⟩ = some (.int .i64 ocl) := d2
          have d3' : wr.cell? ⟨b, off + j * 4 + 3, none⟩ = some (.int .i64 oba) := d3
          have hpj' : PGa.pr l j = op := hpj
          obtain ⟨g, hg⟩ : ∃ g : Int, ((PGa.wn l j : Nat) : Int) = g := ⟨_, rfl⟩
          have CW : Hid (∀ w', Calls Try.prog 20 #[.agg #[.int .i64 oc, .int .i64 op, .int .i64 ocl, .int .i64 oba]] w' fun e w'' => e = .returned (.int .i64 g) ∧ Below w'.heap.size w' w'') := Lib.hid (fun w' => by
            have := gawant_any ⟨oc, op, ocl, oba⟩ w'
            rw [show min (PGa.Ord.mk oc op ocl oba).cl (PGa.Ord.mk oc op ocl oba).ba = g by rw [← hg]; exact hwn.symm] at this
            exact this)
          have i3 : (0 : Int) ≤ (j : Int) := by omega
          have i4 : (j : Int) < (n : Int) := by omega
          have hb1 := bel_le HOK.out p (k := j + 1) (by omega)
          have hb2 := bel_next l p j
          have hg1 := grp_le8 HOK.out p (k := j + 1) (by omega)
          have hg2 : PSplit.sumN (PGa.grp l p) (j + 1) = PSplit.sumN (PGa.grp l p) j + PGa.grp l p j := rfl
          have HPJ := Lib.hid hpj'
          have hbw : b < w.heap.size := by
            obtain ⟨b', off', e, hcw⟩ := H.out.cells hlt
            injection e with e; injection e with e1 e2; subst e1
            exact World.block_lt_of_cell? w _ (hcw t htl).1
          have HKK : Hid (∀ w', Below w.heap.size wr w' → w'.cell? ⟨b, off + j * 4, none⟩ = some (.int .i64 oc) ∧ w'.cell? ⟨b, off + j * 4 + 1, none⟩ = some (.int .i64 op) ∧ w'.cell? ⟨b, off + j * 4 + 2, none⟩ = some (.int .i64 ocl) ∧ w'.cell? ⟨b, off + j * 4 + 3, none⟩ = some (.int .i64 oba) ∧ w'.cell? ⟨b, off + t * 4 + 1, none⟩ = some (.int .i64 p)) := Lib.hid (fun w' hb => ⟨(hb.cell (p := ⟨b, _, none⟩) hbw).trans d0', (hb.cell (p := ⟨b, _, none⟩) hbw).trans d1', (hb.cell (p := ⟨b, _, none⟩) hbw).trans d2', (hb.cell (p := ⟨b, _, none⟩) hbw).trans d3', (hb.cell (p := ⟨b, _, none⟩) hbw).trans e1⟩)
          have hws := HY.out.size
          clear hc d0 d1 d2 d3 hpt hpj hwn ho hpj' d0' d2' d3'
          by_cases h1 : op < p
          · have z1 : decide (op < p) = true := decide_eq_true h1
            have z2 : (op == p) = false := beq_eq_false_iff_ne.2 (by omega)
            have hbj : PGa.bel l p (j + 1) = PGa.bel l p j + PGa.wn l j := by rw [hb2, if_pos (by rw [HPJ.out]; exact h1)]
            have hgj : PGa.grp l p j = 0 := by unfold PGa.grp; rw [if_neg (by rw [HPJ.out]; omega)]
            obtain ⟨x, hx⟩ : ∃ x : Int, D - ((PGa.bel l p j : Nat) : Int) = x := ⟨_, rfl⟩
            have w1 : IntKind.i64.wrap (x - g) = D - ((PGa.bel l p (j + 1) : Nat) : Int) := by rw [IntKind.wrap_i64]; omega
            obtain ⟨x2, hx2⟩ : ∃ x : Int, D - ((PGa.bel l p (j + 1) : Nat) : Int) = x := ⟨_, rfl⟩
            rw [hx2] at w1
            have HI : Hid (PGa.idx l p (j + 1) = PGa.idx l p j ∧ PGa.ws l p (j + 1) = PGa.ws l p j ∧ PSplit.sumN (PGa.grp l p) (j + 1) = PSplit.sumN (PGa.grp l p) j) := Lib.hid ⟨PGa.idx_no (by rw [HPJ.out]; omega), ws_no (by rw [HPJ.out]; omega), by omega⟩
            have HX2 := Lib.hid hx2
            have HMJ : Hid (t < j + 1 → me = (PGa.idx l p t).length) := Lib.hid (fun h => by
              by_cases e : t = j
              · exfalso; have := HPJ.out; rw [← e, HPR.out] at this; omega
              · exact HME.out (by omega))
            rw [hx]
            obtain ⟨sm, hsm⟩ : ∃ x : Int, ((PSplit.sumN (PGa.grp l p) j : Nat) : Int) = x := ⟨_, rfl⟩
            rw [hsm]
            have HSM := Lib.hid hsm
            obtain ⟨nl, hnl⟩ : ∃ x, (PGa.idx l p j).length = x := ⟨_, rfl⟩
            rw [hnl] at HT ⊢
            have HNL := Lib.hid hnl
            clear h1 hb1 hb2 hg1 hg2 hbj hgj hx hx2 hg hsm hnl HME hw50
            go_wp2_with fail
            go_quiet (fail)
            have HC2 : Below wr.heap.size wr (wr.drewN nq) := below_drewN (Below.refl _ _) _
            have HT2 := Lib.hid (HT.out.on HC2); have HY2 := Lib.hid (below_step HY.out HC2)
            have HR2 := Lib.hid (HC2.mono hws)
            generalize wr.drewN nq = wq at *
            clear HC2 e1 d1' HT HY
            obtain ⟨f0, f1, f2, f3, f4⟩ := HKK.out _ HR2.out
            go_wp2_with fail
            refine (CW.out _).mono ?_
            rintro _ w5 ⟨rfl, b5⟩
            have HT5 := Lib.hid (HT2.out.on b5); have HY5 := Lib.hid (below_step HY2.out b5); have HR5 := Lib.hid (HR2.out.trans (b5.mono HY2.out.size))
            clear b5 f0 f1 f2 f3 f4 HT2 HY2
            obtain ⟨f0, f1, f2, f3, f4⟩ := HKK.out _ HR5.out
            go_wp2_with fail
            go_quiet (fail)
            have HC2 : Below w5.heap.size w5 (w5.drewN nq) := below_drewN (Below.refl _ _) _
            have HT6 : Hid (Two15 (w5.drewN nq) w.heap.size (.slice V t cv) (.slice U (PGa.idx l p (j + 1)).length cu) t (PGa.idx l p (j + 1)).length (PSplit.wlist (PGa.served T l) t) (PGa.ws l p (j + 1))) := Lib.hid (by rw [HI.out.1, HI.out.2.1, HNL.out]; exact HT5.out.on HC2)
            have HY6 := Lib.hid (below_step HY5.out HC2)
            generalize w5.drewN nq = wz at *
            clear HC2 f0 f1 f2 f3 f4 HT5 HY5
            go_wp2_with fail
            exact ⟨⟨j + 1, me, U, cu, by omega, by rw [HX2.out], by rw [HI.out.1, HNL.out], by rw [HI.out.2.2, HSM.out], rfl, by congr 1, HMJ, HT6, HY6⟩, by simp [intOf]; omega⟩
          · by_cases h2 : op = p
            · by_cases h3 : j = t
              · skip
                have z1 : decide (op < p) = false := decide_eq_false h1
                have z2 : (op == p) = true := by rw [h2]; exact beq_self_eq_true _
                have z3 : ((j : Int) == (t : Int)) = true := by rw [h3]; exact beq_self_eq_true _
                have hbj : PGa.bel l p (j + 1) = PGa.bel l p j := by rw [hb2, if_neg (by rw [HPJ.out]; exact h1)]; rfl
                have hgj : PGa.grp l p j = PGa.wn l j := by unfold PGa.grp; rw [if_pos (by rw [HPJ.out]; exact h2)]
                have hpe : PGa.pr l j = p := by rw [HPJ.out]; exact h2
                have HI : Hid (PGa.idx l p (j + 1) = PGa.idx l p j ++ [j] ∧ PGa.ws l p (j + 1) = PGa.ws l p j ++ [g] ∧ PGa.bel l p (j + 1) = PGa.bel l p j) := Lib.hid ⟨PGa.idx_yes hpe, by rw [ws_yes hpe, hg], hbj⟩
                have HMJ : Hid (t < j + 1 → (PGa.idx l p j).length = (PGa.idx l p t).length) := Lib.hid (fun h => by rw [h3])
                have hil := PGa.idx_len_le l p j
                obtain ⟨x, hx⟩ : ∃ x : Int, D - ((PGa.bel l p j : Nat) : Int) = x := ⟨_, rfl⟩
                rw [hx]
                have HX2 := Lib.hid hx
                obtain ⟨sm, hsm⟩ : ∃ x : Int, ((PSplit.sumN (PGa.grp l p) j : Nat) : Int) = x := ⟨_, rfl⟩
                obtain ⟨sm2, hsm2⟩ : ∃ x : Int, ((PSplit.sumN (PGa.grp l p) (j + 1) : Nat) : Int) = x := ⟨_, rfl⟩
                have w1 : IntKind.i64.wrap (sm + g) = sm2 := by rw [IntKind.wrap_i64]; omega
                rw [hsm]
                have HSM := Lib.hid hsm2
                obtain ⟨nl, hnl⟩ : ∃ x, (PGa.idx l p j).length = x := ⟨_, rfl⟩
                rw [hnl] at HT hil ⊢
                have HNL := Lib.hid hnl
                rw [hnl] at HMJ
                clear h1 h2 h3 hb1 hb2 hg1 hg2 hbj hgj hx hg hsm hsm2 hnl HME hw50 hpe
                go_wp2_with fail
                go_quiet (fail)
                have HC2 : Below wr.heap.size wr (wr.drewN nq) := below_drewN (Below.refl _ _) _
                have HT2 := Lib.hid (HT.out.on HC2); have HY2 := Lib.hid (below_step HY.out HC2)
                have HR2 := Lib.hid (HC2.mono hws)
                generalize wr.drewN nq = w5 at *
                clear HC2 e1 d1' HT HY
                obtain ⟨f0, f1, f2, f3, f4⟩ := HKK.out _ HR2.out
                go_wp2_with fail
                go_quiet (fail)
                have HC2 : Below w5.heap.size w5 (w5.drewN nq) := below_drewN (Below.refl _ _) _
                have HT3 := Lib.hid (HT2.out.on HC2); have HY3 := Lib.hid (below_step HY2.out HC2); have HR3 := Lib.hid (HR2.out.trans (HC2.mono HY2.out.size))
                generalize w5.drewN nq = w6 at *
                clear HC2 f0 f1 f2 f3 f4 HT2 HY2 HR2
                obtain ⟨f0, f1, f2, f3, f4⟩ := HKK.out _ HR3.out
                go_wp2_with fail
                refine (CW.out _).mono ?_
                rintro _ w7 ⟨rfl, b7⟩
                have HT7 := Lib.hid (HT3.out.on b7); have HY7 := Lib.hid (below_step HY3.out b7); have HR7 := Lib.hid (HR3.out.trans (b7.mono HY3.out.size))
                clear b7 f0 f1 f2 f3 f4 HT3 HY3 HR3
                have hsz := HT7.out.le
                go_wp2_with (at_builtin; refine append_apart rfl _ _ rfl w.heap.size (.slice U nl cu) nl (PGa.ws l p j) g (by rfl) HT7.out.own' (by rfl) (by omega) hsz ?_)
                intro v8 w8 hown8 hb8 hk8
                obtain ⟨U8, c8, rfl⟩ : ∃ U8 c8, v8 = .slice U8 (nl + 1) c8 := by
                  rcases hown8.2 with ⟨h, h'⟩ | ⟨g', cap, cur, h, _⟩
                  · omega
                  · exact ⟨_, _, h⟩
                obtain ⟨o1, o2⟩ := hk8 _ _ _ HT7.out.own HT7.out.ap
                have HY8 := Lib.hid (HY7.out.trans hb8)
                have HT8 : Hid (Two15 w8 w.heap.size (.slice V t cv) (.slice U8 (PGa.idx l p (j + 1)).length c8) t (PGa.idx l p (j + 1)).length (PSplit.wlist (PGa.served T l) t) (PGa.ws l p (j + 1))) := Lib.hid (by
                  rw [HI.out.1, HI.out.2.1, List.length_append, HNL.out]
                  exact ⟨HY8.out.size, o1, hown8, o2⟩)
                have HR8 := Lib.hid (HR7.out.trans hb8)
                clear hown8 hb8 hk8 o1 o2 HT7 HY7 HR7
                obtain ⟨f0, f1, f2, f3, f4⟩ := HKK.out _ HR8.out
                go_wp2_with fail
                refine (CW.out _).mono ?_
                rintro _ w9 ⟨rfl, b9⟩
                have HT9 := Lib.hid (HT8.out.on b9); have HY9 := Lib.hid (below_step HY8.out b9)
                clear b9 f0 f1 f2 f3 f4 HT8 HY8 HR8
                go_wp2_with fail
                exact ⟨⟨j + 1, nl, U8, c8, by omega, by rw [HI.out.2.2, HX2.out], by rw [HI.out.1, List.length_append, HNL.out]; rfl, by rw [HSM.out], rfl, by congr 1, HMJ, HT9, HY9⟩, by simp [intOf]; omega⟩
              · skip
                have z1 : decide (op < p) = false := decide_eq_false h1
                have z2 : (op == p) = true := by rw [h2]; exact beq_self_eq_true _
                have z3 : ((j : Int) == (t : Int)) = false := beq_eq_false_iff_ne.2 (by omega)
                have hbj : PGa.bel l p (j + 1) = PGa.bel l p j := by rw [hb2, if_neg (by rw [HPJ.out]; exact h1)]; rfl
                have hgj : PGa.grp l p j = PGa.wn l j := by unfold PGa.grp; rw [if_pos (by rw [HPJ.out]; exact h2)]
                have hpe : PGa.pr l j = p := by rw [HPJ.out]; exact h2
                have HI : Hid (PGa.idx l p (j + 1) = PGa.idx l p j ++ [j] ∧ PGa.ws l p (j + 1) = PGa.ws l p j ++ [g] ∧ PGa.bel l p (j + 1) = PGa.bel l p j) := Lib.hid ⟨PGa.idx_yes hpe, by rw [ws_yes hpe, hg], hbj⟩
                have HMJ : Hid (t < j + 1 → me = (PGa.idx l p t).length) := Lib.hid (fun h => HME.out (by omega))
                have hil := PGa.idx_len_le l p j
                obtain ⟨x, hx⟩ : ∃ x : Int, D - ((PGa.bel l p j : Nat) : Int) = x := ⟨_, rfl⟩
                rw [hx]
                have HX2 := Lib.hid hx
                obtain ⟨sm, hsm⟩ : ∃ x : Int, ((PSplit.sumN (PGa.grp l p) j : Nat) : Int) = x := ⟨_, rfl⟩
                obtain ⟨sm2, hsm2⟩ : ∃ x : Int, ((PSplit.sumN (PGa.grp l p) (j + 1) : Nat) : Int) = x := ⟨_, rfl⟩
                have w1 : IntKind.i64.wrap (sm + g) = sm2 := by rw [IntKind.wrap_i64]; omega
                rw [hsm]
                have HSM := Lib.hid hsm2
                obtain ⟨nl, hnl⟩ : ∃ x, (PGa.idx l p j).length = x := ⟨_, rfl⟩
                rw [hnl] at HT hil ⊢
                have HNL := Lib.hid hnl
                clear h1 h2 h3 hb1 hb2 hg1 hg2 hbj hgj hx hg hsm hsm2 hnl HME hw50 hpe
                go_wp2_with fail
                go_quiet (fail)
                have HC2 : Below wr.heap.size wr (wr.drewN nq) := below_drewN (Below.refl _ _) _
                have HT2 := Lib.hid (HT.out.on HC2); have HY2 := Lib.hid (below_step HY.out HC2)
                have HR2 := Lib.hid (HC2.mono hws)
                generalize wr.drewN nq = w5 at *
                clear HC2 e1 d1' HT HY
                obtain ⟨f0, f1, f2, f3, f4⟩ := HKK.out _ HR2.out
                go_wp2_with fail
                go_quiet (fail)
                have HC2 : Below w5.heap.size w5 (w5.drewN nq) := below_drewN (Below.refl _ _) _
                have HT3 := Lib.hid (HT2.out.on HC2); have HY3 := Lib.hid (below_step HY2.out HC2); have HR3 := Lib.hid (HR2.out.trans (HC2.mono HY2.out.size))
                generalize w5.drewN nq = w6 at *
                clear HC2 f0 f1 f2 f3 f4 HT2 HY2 HR2
                obtain ⟨f0, f1, f2, f3, f4⟩ := HKK.out _ HR3.out
                go_wp2_with fail
                refine (CW.out _).mono ?_
                rintro _ w7 ⟨rfl, b7⟩
                have HT7 := Lib.hid (HT3.out.on b7); have HY7 := Lib.hid (below_step HY3.out b7); have HR7 := Lib.hid (HR3.out.trans (b7.mono HY3.out.size))
                clear b7 f0 f1 f2 f3 f4 HT3 HY3 HR3
                have hsz := HT7.out.le
                go_wp2_with (at_builtin; refine append_apart rfl _ _ rfl w.heap.size (.slice U nl cu) nl (PGa.ws l p j) g (by rfl) HT7.out.own' (by rfl) (by omega) hsz ?_)
                intro v8 w8 hown8 hb8 hk8
                obtain ⟨U8, c8, rfl⟩ : ∃ U8 c8, v8 = .slice U8 (nl + 1) c8 := by
                  rcases hown8.2 with ⟨h, h'⟩ | ⟨g', cap, cur, h, _⟩
                  · omega
                  · exact ⟨_, _, h⟩
                obtain ⟨o1, o2⟩ := hk8 _ _ _ HT7.out.own HT7.out.ap
                have HY8 := Lib.hid (HY7.out.trans hb8)
                have HT8 : Hid (Two15 w8 w.heap.size (.slice V t cv) (.slice U8 (PGa.idx l p (j + 1)).length c8) t (PGa.idx l p (j + 1)).length (PSplit.wlist (PGa.served T l) t) (PGa.ws l p (j + 1))) := Lib.hid (by
                  rw [HI.out.1, HI.out.2.1, List.length_append, HNL.out]
                  exact ⟨HY8.out.size, o1, hown8, o2⟩)
                have HR8 := Lib.hid (HR7.out.trans hb8)
                clear hown8 hb8 hk8 o1 o2 HT7 HY7 HR7
                obtain ⟨f0, f1, f2, f3, f4⟩ := HKK.out _ HR8.out
                go_wp2_with fail
                refine (CW.out _).mono ?_
                rintro _ w9 ⟨rfl, b9⟩
                have HT9 := Lib.hid (HT8.out.on b9); have HY9 := Lib.hid (below_step HY8.out b9)
                clear b9 f0 f1 f2 f3 f4 HT8 HY8 HR8
                go_wp2_with fail
                exact ⟨⟨j + 1, me, U8, c8, by omega, by rw [HI.out.2.2, HX2.out], by rw [HI.out.1, List.length_append, HNL.out]; rfl, by rw [HSM.out], rfl, by congr 1, HMJ, HT9, HY9⟩, by simp [intOf]; omega⟩
            · have z1 : decide (op < p) = false := decide_eq_false h1
              have z2 : (op == p) = false := beq_eq_false_iff_ne.2 h2
              have hbj : PGa.bel l p (j + 1) = PGa.bel l p j := by rw [hb2, if_neg (by rw [HPJ.out]; exact h1)]; rfl
              have hgj : PGa.grp l p j = 0 := by unfold PGa.grp; rw [if_neg (by rw [HPJ.out]; exact h2)]
              have HI : Hid (PGa.idx l p (j + 1) = PGa.idx l p j ∧ PGa.ws l p (j + 1) = PGa.ws l p j ∧ PSplit.sumN (PGa.grp l p) (j + 1) = PSplit.sumN (PGa.grp l p) j ∧ PGa.bel l p (j + 1) = PGa.bel l p j) := Lib.hid ⟨PGa.idx_no (by rw [HPJ.out]; exact h2), ws_no (by rw [HPJ.out]; exact h2), by omega, hbj⟩
              have HMJ : Hid (t < j + 1 → me = (PGa.idx l p t).length) := Lib.hid (fun h => by
                by_cases e : t = j
                · exfalso; have := HPJ.out; rw [← e, HPR.out] at this; omega
                · exact HME.out (by omega))
              obtain ⟨x, hx⟩ : ∃ x : Int, D - ((PGa.bel l p j : Nat) : Int) = x := ⟨_, rfl⟩
              rw [hx]
              have HX2 := Lib.hid hx
              obtain ⟨sm, hsm⟩ : ∃ x : Int, ((PSplit.sumN (PGa.grp l p) j : Nat) : Int) = x := ⟨_, rfl⟩
              rw [hsm]
              have HSM := Lib.hid hsm
              obtain ⟨nl, hnl⟩ : ∃ x, (PGa.idx l p j).length = x := ⟨_, rfl⟩
              rw [hnl] at HT ⊢
              have HNL := Lib.hid hnl
              clear h1 h2 hb1 hb2 hg1 hg2 hbj hgj hx hg hsm hnl HME hw50 CW
              go_wp2_with fail
              go_quiet (fail)
              have HC2 : Below wr.heap.size wr (wr.drewN nq) := below_drewN (Below.refl _ _) _
              have HT2 := Lib.hid (HT.out.on HC2); have HY2 := Lib.hid (below_step HY.out HC2)
              have HR2 := Lib.hid (HC2.mono hws)
              generalize wr.drewN nq = w5 at *
              clear HC2 e1 d1' HT HY
              obtain ⟨f0, f1, f2, f3, f4⟩ := HKK.out _ HR2.out
              go_wp2_with fail
              go_quiet (fail)
              have HC2 : Below w5.heap.size w5 (w5.drewN nq) := below_drewN (Below.refl _ _) _
              have HT6 : Hid (Two15 (w5.drewN nq) w.heap.size (.slice V t cv) (.slice U (PGa.idx l p (j + 1)).length cu) t (PGa.idx l p (j + 1)).length (PSplit.wlist (PGa.served T l) t) (PGa.ws l p (j + 1))) := Lib.hid (by rw [HI.out.1, HI.out.2.1, HNL.out]; exact HT2.out.on HC2)
              have HY6 := Lib.hid (below_step HY2.out HC2)
              generalize w5.drewN nq = wz at *
              clear HC2 f0 f1 f2 f3 f4 HT2 HY2
              go_wp2_with fail
              exact ⟨⟨j + 1, me, U, cu, by omega, by rw [HI.out.2.2.2, HX2.out], by rw [HI.out.1, HNL.out], by rw [HI.out.2.2.1, HSM.out], rfl, by congr 1, HMJ, HT6, HY6⟩, by simp [intOf]; omega⟩
        · obtain rfl : j = n := by omega
          have hbel : PGa.bel l p j = PGa.below l p := by unfold PGa.bel PGa.below; rw [hl.out]
          have hat : PSplit.sumN (PGa.grp l p) j = PGa.atP l p := by unfold PGa.atP; rw [hl.out]
          have hme := HME.out hlt
          have hb1 := bel_le HOK.out p (k := j) hn
          have hg1 := grp_le8 HOK.out p (k := j) hn
          rw [hbel] at hb1 ⊢
          rw [hat] at hg1 ⊢
          obtain ⟨d, hd⟩ : ∃ x : Int, D - ((PGa.below l p : Nat) : Int) = x := ⟨_, rfl⟩
          obtain ⟨sm, hsm⟩ : ∃ x : Int, ((PGa.atP l p : Nat) : Int) = x := ⟨_, rfl⟩
          rw [hd, hsm]
          have hpr := HPR.out
          have hil := PGa.idx_len_le l p j
          by_cases h1 : sm ≤ d
          · have hsv := served_1 (l := l) (t := t) HTD.out (by rw [hpr]; omega)
            obtain ⟨b, off, rfl, hc⟩ := (H.out.on HY.out).cells hlt
            obtain ⟨d0, d1, d2, d3⟩ := hc t htl
            have hwn := HOK.out.wn htl
            obtain ⟨o, ho⟩ : ∃ o, l[t] = o := ⟨_, rfl⟩
            rw [ho] at d0 d1 d2 d3 hwn
            obtain ⟨oc, op, ocl, oba⟩ := o
            have d0' : wr.cell? ⟨b, off + t * 4, none⟩ = some (.int .i64 oc) := d0
            have d1' : wr.cell? ⟨b, off + t * 4 + 1, none⟩ = some (.int .i64 op) := d1
            have d2' : wr.cell? ⟨b, off + t * 4 + 2, none⟩ = some (.int .i64 ocl) := d2
            have d3' : wr.cell? ⟨b, off + t * 4 + 3, none⟩ = some (.int .i64 oba) := d3
            obtain ⟨g, hg⟩ : ∃ g : Int, ((PGa.wn l t : Nat) : Int) = g := ⟨_, rfl⟩
            have HSV : Hid (((PGa.served T l t : Nat) : Int) = g) := Lib.hid (by rw [hsv, hg])
            have CW : Hid (∀ w', Calls Try.prog 20 #[.agg #[.int .i64 oc, .int .i64 op, .int .i64 ocl, .int .i64 oba]] w' fun e w'' => e = .returned (.int .i64 g) ∧ Below w'.heap.size w' w'') := Lib.hid (fun w' => by
              have := gawant_any ⟨oc, op, ocl, oba⟩ w'
              rw [show min (PGa.Ord.mk oc op ocl oba).cl (PGa.Ord.mk oc op ocl oba).ba = g by rw [← hg]; exact hwn.symm] at this
              exact this)
            clear hsv hc hwn ho hg d0 d1 d2 d3 hd hsm hb1 hg1 hbel hat hme hpr
            go_wp2_with fail
            refine (CW.out _).mono ?_
            rintro _ w7 ⟨rfl, b7⟩
            have HT7 := Lib.hid (HT.out.on b7); have HZ := Lib.hid (below_step HY.out b7)
            clear b7 d0' d1' d2' d3'
            have hsz := HT7.out.le
            go_wp2_with (at_builtin; refine append_apart rfl _ _ rfl w.heap.size (.slice V t cv) t (PSplit.wlist (PGa.served T l) t) g (by rfl) HT7.out.own (by rfl) (by omega) hsz ?_)
            intro v8 w8 hown8 hb8 hk8
            obtain ⟨U8, c8, rfl⟩ : ∃ U8 c8, v8 = .slice U8 (t + 1) c8 := by
              rcases hown8.2 with ⟨h, h'⟩ | ⟨g', cap, cur, h, _⟩
              · omega
              · exact ⟨_, _, h⟩
            have HY8 := Lib.hid (HZ.out.trans hb8)
            have HO8 : Hid (w8.ownsRow w.heap.size 3 1 (.slice U8 (t + 1) c8) (t + 1) (cellsOfInts (PSplit.wlist (PGa.served T l) (t + 1)))) := Lib.hid (by rw [← PSplit.wlist_next, HSV.out]; exact hown8)
            clear hown8 hb8 hk8
            go_wp2_with fail
            exact ⟨⟨t + 1, U8, c8, by omega, rfl, by congr 1, HO8, HY8⟩, by simp [intOf]; omega⟩
          · by_cases h2 : d ≤ 0
            · have hsv := served_2 (l := l) (t := t) htl HTD.out (by rw [hpr]; omega)
              have HSV : Hid (((PGa.served T l t : Nat) : Int) = 0) := Lib.hid (by rw [hsv]; rfl)
              have HZ := Lib.hid HY.out
              have hsz := HT.out.le
              clear hsv hd hsm hb1 hg1 hbel hat hme hpr
              go_wp2_with (at_builtin; refine append_apart rfl _ _ rfl w.heap.size (.slice V t cv) t (PSplit.wlist (PGa.served T l) t) 0 (by rfl) HT.out.own (by rfl) (by omega) hsz ?_)
              intro v8 w8 hown8 hb8 hk8
              obtain ⟨U8, c8, rfl⟩ : ∃ U8 c8, v8 = .slice U8 (t + 1) c8 := by
                rcases hown8.2 with ⟨h, h'⟩ | ⟨g', cap, cur, h, _⟩
                · omega
                · exact ⟨_, _, h⟩
              have HY8 := Lib.hid (HZ.out.trans hb8)
              have HO8 : Hid (w8.ownsRow w.heap.size 3 1 (.slice U8 (t + 1) c8) (t + 1) (cellsOfInts (PSplit.wlist (PGa.served T l) (t + 1)))) := Lib.hid (by rw [← PSplit.wlist_next, HSV.out]; exact hown8)
              clear hown8 hb8 hk8
              go_wp2_with fail
              exact ⟨⟨t + 1, U8, c8, by omega, rfl, by congr 1, HO8, HY8⟩, by simp [intOf]; omega⟩
            · obtain ⟨R, hR, hsv, hsum, h0⟩ := served_3 (l := l) (t := t) htl HTD.out (by rw [hpr]; omega) (by rw [hpr]; omega)
              rw [hpr, hl.out] at hsv hsum
              rw [hpr] at hR h0
              obtain rfl : (R : Int) = d := by omega
              have hmt : (PGa.idx l p t).length < (PGa.idx l p j).length := (PGa.idx_at hpr j hlt).1
              have hws : PGa.ws l p j = PSplit.wlist (fun q => PGa.wn l ((PGa.idx l p j).getD q 0)) (PGa.idx l p j).length := by
                refine PSplit.wlist_eq (by rw [ws_len]) (fun q hq => ?_)
                exact ws_get hq
              obtain ⟨U', cu', eU, _, _, _, hsl⟩ := sl_of_own HT.out.own' (ws_in64 HOK.out p j) (by omega)
              injection eU with eU1 eU2 eU3
              subst eU1; subst eU3
              have hSP := refsplit_any R (PGa.atP l p) (PGa.idx l p j).length (fun q => PGa.wn l ((PGa.idx l p j).getD q 0)) U cu (PGa.ws l p j) wr hsl (fun q hq => ws_get hq) (by omega) (by rw [hws, ← hsum]; exact PSplit.sumFrom_nat (by rw [hsum]; omega)) hsum h0 (by omega) (by omega)
              have HSP := Lib.hid hSP
              have HPL : Hid ((PSplit.pL R (PGa.atP l p) (fun q => PGa.wn l ((PGa.idx l p j).getD q 0)) (PGa.idx l p j).length (PGa.idx l p j).length).getD (PGa.idx l p t).length 0 = ((PGa.served T l t : Nat) : Int)) := Lib.hid (by rw [PSplit.pL_get hmt, hsv])
              have hlp : (PSplit.pL R (PGa.atP l p) (fun q => PGa.wn l ((PGa.idx l p j).getD q 0)) (PGa.idx l p j).length (PGa.idx l p j).length).length = (PGa.idx l p j).length := PSplit.pL_len _ _ _ _ _
              have HLP := Lib.hid hlp
              rw [← hme] at hmt
              obtain ⟨nl, hnl⟩ : ∃ x, (PGa.idx l p j).length = x := ⟨_, rfl⟩
              have HNL := Lib.hid hnl
              rw [← hme] at HPL
              obtain ⟨PL, hPL⟩ : ∃ q, PSplit.pL R (PGa.atP l p) (fun q => PGa.wn l ((PGa.idx l p j).getD q 0)) (PGa.idx l p j).length (PGa.idx l p j).length = q := ⟨_, rfl⟩
              rw [hPL] at HSP HPL HLP
              rw [hnl] at HSP HT hmt HLP ⊢
              obtain ⟨g, hg⟩ : ∃ g : Int, ((PGa.served T l t : Nat) : Int) = g := ⟨_, rfl⟩
              rw [hg] at HPL
              have HSV := Lib.hid hg
              have i5 : (0 : Int) ≤ (me : Int) := by omega
              have i6 : (me : Int) < (nl : Int) := by omega
              have h1' : ¬ sm ≤ (R : Int) := h1
              have h2' : ¬ (R : Int) ≤ 0 := h2
              clear hsv hsm hb1 hg1 hbel hat hme hpr hR hsum h0 hd hws hsl hSP hlp hnl hPL hg hil
              go_wp2_with fail
              refine HSP.out.mono ?_
              rintro _ w7 ⟨B, m, c, rfl, _, _, hs7, b7⟩
              have hm7 : m = nl := by have := hs7.1; rw [HLP.out] at this; exact this.symm
              subst hm7
              obtain ⟨bS, oS, rfl, hcS⟩ := ga_at hs7 hmt
              have c1 := hcS me hmt
              rw [HPL.out] at c1
              have HT7 := Lib.hid (HT.out.on b7); have HZ := Lib.hid (below_step HY.out b7)
              have hsz := HT7.out.le
              clear hcS hs7 b7 hmt HSP HT HY
              go_wp2_with (at_builtin; refine append_apart rfl _ _ rfl w.heap.size (.slice V t cv) t (PSplit.wlist (PGa.served T l) t) g (by rfl) HT7.out.own (by rfl) (by omega) hsz ?_)
              intro v8 w8 hown8 hb8 hk8
              obtain ⟨U8, c8, rfl⟩ : ∃ U8 c8, v8 = .slice U8 (t + 1) c8 := by
                rcases hown8.2 with ⟨h, h'⟩ | ⟨g', cap, cur, h, _⟩
                · omega
                · exact ⟨_, _, h⟩
              have HY8 := Lib.hid (HZ.out.trans hb8)
              have HO8 : Hid (w8.ownsRow w.heap.size 3 1 (.slice U8 (t + 1) c8) (t + 1) (cellsOfInts (PSplit.wlist (PGa.served T l) (t + 1)))) := Lib.hid (by rw [← PSplit.wlist_next, HSV.out]; exact hown8)
              clear hown8 hb8 hk8
              go_wp2_with fail
              exact ⟨⟨t + 1, U8, c8, by omega, rfl, by congr 1, HO8, HY8⟩, by simp [intOf]; omega⟩
    · obtain rfl : t = n := by omega
      obtain ⟨U', cu', eU, _, _, _, hsl⟩ := sl_of_own HO.out (fun i hi => by
        rw [PSplit.wlist_len] at hi
        rw [PSplit.wlist_get hi]
        have h1 := PGa.served_le T l i
        have h2 := HOK.out.wn_le i
        omega) (by omega)
      injection eU with eU1 eU2 eU3
      subst eU1; subst eU3
      have HSL := Lib.hid hsl
      clear hsl
      go_wp2_with fail
      go_ret
      exact ⟨V, ⟨cv, rfl⟩, HSL.out, HW.out⟩
end Go.Proofs.Ytmmgejgmlhhfdaa
