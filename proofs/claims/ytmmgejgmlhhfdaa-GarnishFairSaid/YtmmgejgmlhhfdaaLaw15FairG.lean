/-
  GarnishFair: no order is paid more than its want; all together not more than there is; a later one is paid only if all ahead have their wants.
-/
import Derived.Test.YtmmgejgmlhhfdaaLaw15MoreG
namespace Go.Proofs.Ytmmgejgmlhhfdaa
open Go.RowKit

theorem sumN_lt {f g : Nat → Nat} : ∀ {n i : Nat}, (∀ j, f j ≤ g j) → i < n → f i < g i → PSplit.sumN f n < PSplit.sumN g n
  | 0, i, _, h, _ => by omega
  | n + 1, i, h, hi, hlt => by
    by_cases e : i = n
    · subst e
      have := PSplit.sumN_le (f := f) (g := g) (n := i) (fun j _ => h j)
      simp only [PSplit.sumN]; omega
    · have := sumN_lt h (show i < n by omega) hlt
      have := h n
      simp only [PSplit.sumN]; omega

set_option maxHeartbeats 6400000 in
set_option maxRecDepth 100000 in
theorem lgfair_in {A : Option Addr} {n ca : Nat} {l : List PGa.Ord} {w : World} {net prot : Int} (h : SlO w A n l) (hA : A = none → ca = 0) (h8 : n ≤ 8) :
    Calls Try.prog 5 #[.int .i64 net, .int .i64 prot, .slice A n ca] w fun e w' => e = .returned (.bool true) ∧ Below w.heap.size w w' := by
  have H := Lib.hid h
  have hl := Lib.hid h.len
  have i8 : ¬ (8 : Int) < (n : Int) := by omega
  obtain ⟨E, hE⟩ : ∃ E, PGa.err net prot l = E := ⟨_, rfl⟩
  obtain ⟨T, hT⟩ : ∃ T, PGa.there net prot = T := ⟨_, rfl⟩
  have C := Lib.hid (gaserve_any (cap := ca) (net := net) (prot := prot) h)
  rw [hE, hT] at C
  by_cases f1 : E = 0
  · have hok := PGa.err_ok (hE.trans f1)
    obtain ⟨-, p0, p1, n0, n1, hok⟩ := hok
    have HOK := Lib.hid hok
    have hsub : IntKind.i64.wrap (net - prot) = net - prot := by rw [IntKind.wrap_i64]; omega
    have hmx : max (net - prot) 0 = (T : Int) := by rw [← hT]; unfold PGa.there; omega
    have hT50 : T ≤ 1125899906842624 := by omega
    have CPD : Hid (∀ w' P c, Below w.heap.size w w' → Sl w' P n (PSplit.wlist (PGa.served T l) n) → Calls Try.prog 15 #[.slice A n ca, .slice P n c] w' (PaidC l (PSplit.wlist (PGa.served T l) n) n w')) := Lib.hid (fun w' P c hb hs => gapaid_any (h.on hb) hA (by omega) hs (by omega))
    have POK : Hid (PGa.PaidOk l (PSplit.wlist (PGa.served T l) n)) := Lib.hid ⟨by rw [PSplit.wlist_len, h.len], fun i hi => by
      have h1 := PGa.served_le T l i
      have h2 := hok.wn hi
      rw [PSplit.wlist_get (by rw [← h.len]; exact hi)]
      omega⟩
    have HSU : Hid (∀ k, k ≤ n → PSplit.sumN (PGa.served T l) k ≤ T) := Lib.hid (fun k hk => by
      have h1 := PGa.served_sum T l
      rw [h.len] at h1
      have h2 := PSplit.sumN_upto (PGa.served T l) hk
      omega)
    have HSN : Hid (PSplit.sumN (PGa.served T l) n = min T (PGa.all l)) := Lib.hid (by have h1 := PGa.served_sum T l; rw [h.len] at h1; exact h1)
    subst f1
    have HN : Hid (n ≤ 8) := Lib.hid h8
    clear h hok p0 p1 n0 n1 hE hT hA
    go_enter Try.func5, Try.ntmps5
    go_wp2_with fail
    refine C.out.mono ?_
    rintro _ w2 ⟨B, m, c, rfl, b2, y2, -⟩
    obtain ⟨rfl, s2, -⟩ := y2 rfl
    have S2 := Lib.hid s2; have B2 := Lib.hid b2
    clear y2 s2 b2 C
    have e0 : ((0 : Int) != 0) = false := rfl
    have e3 : ((m : Int) != (m : Int)) = false := bne_self_eq_false _
    go_wp2_with fail
    clear e0 e3
    go_loopw [9, 10, 44] (fun s x i wr => ∃ (k : Nat) (b : Bool), k ≤ m ∧ s = .int .i64 ((PSplit.sumN (PGa.served T l) k : Nat) : Int) ∧ x = .bool b ∧ i = .int .i64 k ∧ Hid (b = true ∨ ∃ i, i < m ∧ PGa.served T l i < PGa.wn l i) ∧ Hid (Below w2.heap.size w2 wr)) (fun _ _ i _ => m - (intOf i).toNat)
    case atStart => exact ⟨0, true, Nat.zero_le _, rfl, rfl, rfl, (show Hid _ from .inl rfl), (show Hid _ from Below.refl _ _)⟩
    case round =>
      obtain ⟨k, b, hk, rfl, rfl, rfl, HB, HW⟩ := hrel
      by_cases hlt : k < m
      · obtain ⟨bS, oS, rfl, hcS⟩ := ga_at (S2.out.on HW.out) hlt
        have c1 := hcS k hlt
        rw [PSplit.wlist_get hlt] at c1
        obtain ⟨b0, off, rfl, hc⟩ := ((H.out.on B2.out).on HW.out).cells hlt
        have hkl : k < l.length := by rw [hl.out]; exact hlt
        obtain ⟨-, -, d2, d3⟩ := hc k hkl
        have hwn := HOK.out.wn hkl
        have hle := PGa.served_le T l k
        have hw50 := HOK.out.wn_le k
        have hu1 := HSU.out (k + 1) hlt
        have hu2 : PSplit.sumN (PGa.served T l) (k + 1) = PSplit.sumN (PGa.served T l) k + PGa.served T l k := rfl
        obtain ⟨cl, hcl⟩ : ∃ x, l[k].cl = x := ⟨_, rfl⟩
        obtain ⟨ba, hba⟩ : ∃ x, l[k].ba = x := ⟨_, rfl⟩
        rw [hcl] at d2 hwn; rw [hba] at d3 hwn
        obtain ⟨v, hv⟩ : ∃ v : Int, ((PGa.served T l k : Nat) : Int) = v := ⟨_, rfl⟩
        obtain ⟨mn, hmn⟩ : ∃ v : Int, min cl ba = v := ⟨_, rfl⟩
        obtain ⟨S, hS⟩ : ∃ v : Int, ((PSplit.sumN (PGa.served T l) k : Nat) : Int) = v := ⟨_, rfl⟩
        obtain ⟨S', hS'⟩ : ∃ v : Int, ((PSplit.sumN (PGa.served T l) (k + 1) : Nat) : Int) = v := ⟨_, rfl⟩
        rw [hv] at c1
        rw [hS]
        have e1 : IntKind.i64.wrap (S + v) = S' := by rw [IntKind.wrap_i64]; omega
        have g1 : decide (v < 0) = false := decide_eq_false (by omega)
        have g2 : decide (mn < v) = false := decide_eq_false (by omega)
        have i1 : (0 : Int) ≤ (k : Int) := by omega
        have i2 : (k : Int) < (m : Int) := by omega
        have HS' := Lib.hid hS'; have HV := Lib.hid hv; have HMN := Lib.hid hmn
        have HBN : Hid ((b && (v == mn)) = true ∨ ∃ i, i < m ∧ PGa.served T l i < PGa.wn l i) := Lib.hid (by
          rcases HB.out with h1 | h1
          · by_cases e : v = mn
            · exact .inl (by rw [h1, e]; simp)
            · exact .inr ⟨k, hlt, by omega⟩
          · exact .inr h1)
        clear hcS hc hwn hle hw50 hu1 hu2 hcl hba hv hmn hS hS'
        obtain ⟨q, hq⟩ : ∃ q, (v == mn) = q := ⟨_, rfl⟩
        rw [hq] at HBN
        go_upto_region 13 with fail
        go_cut [10] (fun x wx => x = .bool (b && q) ∧ Hid (Below wr.heap.size wr wx))
        case first =>
          cases b with
          | true =>
            go_wp2_with fail
            go_quiet (fail)
            have BQ : Hid (Below wr.heap.size wr (wr.drewN nq)) := Lib.hid (below_drewN (Below.refl _ _) _)
            go_wp2_with fail
            go_meet
            exact ⟨by rw [HMN.out, hq]; rfl, BQ⟩
          | false =>
            go_wp2_with fail
            go_quiet (fail)
            have BQ : Hid (Below wr.heap.size wr (wr.drewN nq)) := Lib.hid (below_drewN (Below.refl _ _) _)
            go_wp2_with fail
            go_meet
            exact ⟨by simp, BQ⟩
        case rest =>
          obtain ⟨rfl, HC⟩ := hcut
          have c1' := (HC.out.cell (World.block_lt_of_cell? wr _ c1)).trans c1
          have d2' := (HC.out.cell (World.block_lt_of_cell? wr _ d2)).trans d2
          have d3' := (HC.out.cell (World.block_lt_of_cell? wr _ d3)).trans d3
          have HWc := Lib.hid (below_step HW.out HC.out)
          have hmn := HMN.out
          obtain ⟨bb, hbb⟩ : ∃ bb, (b && q) = bb := ⟨_, rfl⟩
          rw [hbb] at HBN
          rw [hbb]
          clear c1 d2 d3 HW HC HB hq hbb e1
          go_wp2_with fail
          go_quiet (fail)
          have BQ : Hid (Below w2.heap.size w2 (wc.drewN nq)) := Lib.hid (below_drewN HWc.out _)
          generalize wc.drewN nq = wq at *
          clear c1' d2' d3' HWc hmn g1 g2
          go_wp2_with fail
          go_loopw [87] (fun i wy => ∃ j : Nat, j ≤ m ∧ i = .int .i64 j ∧ Hid (Below w2.heap.size w2 wy)) (fun i _ => m - (intOf i).toNat)
          case atStart => exact ⟨0, Nat.zero_le _, rfl, BQ⟩
          case round =>
            obtain ⟨j, hj, rfl, HY⟩ := hrel
            by_cases hjt : j < m
            · obtain ⟨bT, oT, eT, hcS⟩ := ga_at (S2.out.on HY.out) hjt
              injection eT with eT; injection eT with eT1 eT2; subst eT1; subst eT2
              have c3 := hcS j hjt
              rw [PSplit.wlist_get hjt] at c3
              obtain ⟨bU, oU, eU, hcO⟩ := ((H.out.on B2.out).on HY.out).cells hlt
              injection eU with eU; injection eU with eU1 eU2; subst eU1; subst eU2
              have hkl : k < l.length := by rw [hl.out]; exact hlt
              have hjl : j < l.length := by rw [hl.out]; exact hjt
              obtain ⟨-, a1, -, -⟩ := hcO k hkl
              obtain ⟨-, a2, a3, a4⟩ := hcO j hjl
              have hwn := HOK.out.wn hjl
              have hah : PGa.pr l j < PGa.pr l k → 0 < PGa.served T l k → PGa.served T l j = PGa.wn l j := fun h1 h2 => PGa.served_ahead h1 h2
              have hpk : PGa.pr l k = l[k].p := by unfold PGa.pr; simp [List.getD, hkl]
              have hpj : PGa.pr l j = l[j].p := by unfold PGa.pr; simp [List.getD, hjl]
              rw [hpk, hpj] at hah
              have hv := HV.out
              obtain ⟨pk, hpk'⟩ : ∃ x, l[k].p = x := ⟨_, rfl⟩
              obtain ⟨pj, hpj'⟩ : ∃ x, l[j].p = x := ⟨_, rfl⟩
              obtain ⟨cl2, hcl⟩ : ∃ x, l[j].cl = x := ⟨_, rfl⟩
              obtain ⟨ba2, hba⟩ : ∃ x, l[j].ba = x := ⟨_, rfl⟩
              obtain ⟨u, hu⟩ : ∃ v : Int, ((PGa.served T l j : Nat) : Int) = v := ⟨_, rfl⟩
              obtain ⟨mn2, hmn2⟩ : ∃ v : Int, min cl2 ba2 = v := ⟨_, rfl⟩
              rw [hpk'] at a1 hah; rw [hpj'] at a2 hah; rw [hcl] at a3 hwn; rw [hba] at a4 hwn; rw [hu] at c3
              have i3 : (0 : Int) ≤ (j : Int) := by omega
              have i4 : (j : Int) < (m : Int) := by omega
              have key : pj < pk → 0 < v → ¬ u < mn2 := fun h1 h2 => by have := hah h1 (by omega); omega
              have KEY := Lib.hid key
              have i5 : (0 : Int) ≤ (k : Int) := by omega
              have i6 : (k : Int) < (m : Int) := by omega
              clear hcS hcO hwn hah hpk hpj hv hpk' hpj' hcl hba hu key
              by_cases h1 : pj < pk
              · by_cases h2 : 0 < v
                · have z1 : decide (pj < pk) = true := decide_eq_true h1
                  have z2 : decide (0 < v) = true := decide_eq_true h2
                  have z3 : decide (u < mn2) = false := decide_eq_false (KEY.out h1 h2)
                  clear h1 h2
                  go_wp2_with fail
                  go_quiet (fail)
                  have BR : Hid (Below w2.heap.size w2 (wr.drewN nq)) := Lib.hid (below_drewN HY.out _)
                  go_wp2_with fail
                  exact ⟨⟨j + 1, by omega, by congr 1, BR⟩, by simp [intOf]; omega⟩
                · have z1 : decide (pj < pk) = true := decide_eq_true h1
                  have z2 : decide (0 < v) = false := decide_eq_false h2
                  clear h1 h2
                  go_wp2_with fail
                  go_quiet (fail)
                  have BR : Hid (Below w2.heap.size w2 (wr.drewN nq)) := Lib.hid (below_drewN HY.out _)
                  go_wp2_with fail
                  exact ⟨⟨j + 1, by omega, by congr 1, BR⟩, by simp [intOf]; omega⟩
              · have z1 : decide (pj < pk) = false := decide_eq_false h1
                clear h1
                go_wp2_with fail
                go_quiet (fail)
                have BR : Hid (Below w2.heap.size w2 (wr.drewN nq)) := Lib.hid (below_drewN HY.out _)
                go_wp2_with fail
                exact ⟨⟨j + 1, by omega, by congr 1, BR⟩, by simp [intOf]; omega⟩
            · obtain rfl : j = m := by omega
              go_wp2_with fail
              exact ⟨⟨k + 1, bb, by omega, by rw [HS'.out], rfl, by congr 1, HBN, HY⟩, by simp [intOf]; omega⟩
      · obtain rfl : k = m := by omega
        have hs := HSN.out
        obtain ⟨S, hS⟩ : ∃ v : Int, ((PSplit.sumN (PGa.served T l) k : Nat) : Int) = v := ⟨_, rfl⟩
        rw [hS]
        have HF : Hid (b = false → S = (T : Int)) := Lib.hid (fun hb => by
          obtain ⟨i, hi, h1⟩ : ∃ i, i < k ∧ PGa.served T l i < PGa.wn l i := by
            rcases HB.out with h | h
            · rw [hb] at h; cases h
            · exact h
          have h2 := sumN_lt (f := PGa.served T l) (g := PGa.wn l) (n := k) (fun j => PGa.served_le T l j) hi h1
          have h3 : PGa.all l = PSplit.sumN (PGa.wn l) k := by unfold PGa.all; rw [hl.out]
          omega)
        have hST : S ≤ (T : Int) := by omega
        have CP2 := Lib.hid (CPD.out wr B c (below_step B2.out HW.out) (S2.out.on HW.out))
        have BW := Lib.hid (below_step B2.out HW.out)
        clear hs hS CPD HB
        cases b with
        | true =>
          go_wp2_with fail
          refine CP2.out.mono ?_
          rintro _ w5 ⟨b5, ⟨-, B5, c5, L5, rfl, -, -, -, -⟩ | ⟨hn, -⟩⟩
          · have B5' := Lib.hid (below_step BW.out b5)
            clear b5 CP2
            go_wp2_with fail
            refine (awake_any _).mono ?_
            rintro _ w9 ⟨rfl, b9⟩
            have B9 := Lib.hid (below_step B5'.out b9)
            clear b9
            go_wp2_with fail
            go_ret
            exact ⟨rfl, B9.out⟩
          · exact absurd POK.out hn
        | false =>
          have eST := HF.out rfl
          subst eST
          have e5 : ((T : Int) == (T : Int)) = true := beq_self_eq_true _
          go_wp2_with fail
          refine CP2.out.mono ?_
          rintro _ w5 ⟨b5, ⟨-, B5, c5, L5, rfl, -, -, -, -⟩ | ⟨hn, -⟩⟩
          · have B5' := Lib.hid (below_step BW.out b5)
            clear b5 CP2
            go_wp2_with fail
            refine (awake_any _).mono ?_
            rintro _ w9 ⟨rfl, b9⟩
            have B9 := Lib.hid (below_step B5'.out b9)
            clear b9
            go_wp2_with fail
            go_ret
            exact ⟨rfl, B9.out⟩
          · exact absurd POK.out hn
  · have a1 : (E != 0) = true := bne_iff_ne.2 f1
    have HNE := Lib.hid f1
    clear h hE hT f1 hA
    go_enter Try.func5, Try.ntmps5
    go_wp2_with fail
    refine C.out.mono ?_
    rintro _ w2 ⟨B, m, c, rfl, b2, -, z2⟩
    obtain ⟨rfl, -⟩ := z2 HNE.out
    have B2 := Lib.hid b2
    clear b2 z2 C
    go_wp2_with fail
    refine (awake_any _).mono ?_
    rintro _ w9 ⟨rfl, b9⟩
    have B9 := Lib.hid (below_step B2.out b9)
    clear b9
    go_wp2_with fail
    go_ret
    exact ⟨rfl, B9.out⟩

set_option maxHeartbeats 3200000 in
theorem lgfair_out {A : Option Addr} {n ca : Nat} {w : World} {net prot : Int} (h8 : ¬ n ≤ 8) :
    Calls Try.prog 5 #[.int .i64 net, .int .i64 prot, .slice A n ca] w fun e w' => e = .returned (.bool true) ∧ Below w.heap.size w w' := by
  have i8 : (8 : Int) < (n : Int) := by omega
  clear h8
  go_enter Try.func5, Try.ntmps5
  go_wp2_with fail
  refine (awake_any _).mono ?_
  rintro _ w9 ⟨rfl, b9⟩
  have B9 := Lib.hid b9
  clear b9
  go_wp2_with fail
  go_ret
  exact ⟨rfl, B9.out⟩
theorem lgfair_walk (net prot : Int) (A : Option Addr) (n ca : Nat) (l : List PGa.Ord) (w : World) (_ : (Lit.int .i64 net).wf = true) (_ : (Lit.int .i64 prot).wf = true) (h : SlO w A n l ∧ (A = none → ca = 0)) :
    Calls Try.prog 5 #[.int .i64 net, .int .i64 prot, .slice A n ca] w fun e w' => e = .returned (.bool true) ∧ Below w.heap.size w w' := by
  by_cases h8 : n ≤ 8
  · exact lgfair_in h.1 h.2 h8
  · exact lgfair_out h8
end Go.Proofs.Ytmmgejgmlhhfdaa
