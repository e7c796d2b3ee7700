/-
  GarnishMore: with more there is, no order that is alone in its priority is paid less; with a greater protected amount none is paid more.
-/
import Derived.Test.YtmmgejgmlhhfdaaGA
import Derived.Deep.QuietTactic
import Derived.BigQuiet
namespace Go.Proofs.Ytmmgejgmlhhfdaa
open Go.RowKit

/-- Serve, whatever comes. -/
def ServeA (E : Int) (n : Nat) (l : List Int) (w : World) (e : Ending) (w' : World) : Prop := ∃ B m c, e = .returned (.tuple #[.slice B m c, .int .i64 E]) ∧ Below w.heap.size w w' ∧ (E = 0 → m = n ∧ Sl w' B n l ∧ (B = none → c = 0)) ∧ (E ≠ 0 → m = 0 ∧ Sl w' B 0 [])
theorem gaserve_any {A : Option Addr} {n cap : Nat} {l : List PGa.Ord} {w : World} {net prot : Int} (h : SlO w A n l) :
    Calls Try.prog 11 #[.int .i64 net, .int .i64 prot, .slice A n cap] w (ServeA (PGa.err net prot l) n (PSplit.wlist (PGa.served (PGa.there net prot) l) n) w) := by
  by_cases he : PGa.err net prot l = 0
  · refine (gaserve_yes h he).mono ?_
    rintro e w' ⟨B, rfl, _, hs, hb⟩
    exact ⟨_, n, n, by rw [he], hb, fun _ => ⟨rfl, hs, fun e => by cases e⟩, fun h => absurd he h⟩
  · refine (gaserve_no h he).mono ?_
    rintro e w' ⟨rfl, hb⟩
    exact ⟨none, 0, 0, rfl, hb, fun h => absurd h he, fun _ => ⟨rfl, sl_nil _⟩⟩
/-- No two orders have one priority. -/
def PGa.Unlike (l : List PGa.Ord) (k : Nat) : Prop := ∀ i, i < k → ∀ j, j < i → PGa.pr l i ≠ PGa.pr l j
theorem PGa.Unlike.alone {l : List PGa.Ord} (h : PGa.Unlike l l.length) {i : Nat} (hi : i < l.length) : ∀ j, j < l.length → j ≠ i → PGa.pr l j ≠ PGa.pr l i := fun j hj hne => by
  by_cases e : j < i
  · exact fun k => h i hi j e k.symm
  · exact h j hj i (by omega)
theorem PGa.served_mono {T T' : Nat} {l : List PGa.Ord} (h : PGa.Unlike l l.length) (hT : T ≤ T') {i : Nat} (hi : i < l.length) : PGa.served T l i ≤ PGa.served T' l i := by
  rw [PGa.served_alone hi (h.alone hi), PGa.served_alone hi (h.alone hi)]; omega

set_option maxHeartbeats 6400000 in
set_option maxRecDepth 100000 in
theorem lgmore_in {A : Option Addr} {n ca : Nat} {l : List PGa.Ord} {w : World} {net prot more : Int} (h : SlO w A n l) (h8 : n ≤ 8) (m0 : 0 ≤ more) (m1 : more ≤ 1099511627776) (g1 : net ≤ 562949953421312) (g2 : prot ≤ 562949953421312) (g3 : -9223372036854775808 ≤ net) (g4 : -9223372036854775808 ≤ prot) :
    Calls Try.prog 6 #[.int .i64 net, .int .i64 prot, .int .i64 more, .slice A n ca] w fun e w' => e = .returned (.bool true) ∧ Below w.heap.size w w' := by
  have H := Lib.hid h
  have hl := Lib.hid h.len
  have i8 : ¬ (8 : Int) < (n : Int) := by omega
  have j0 : ¬ more < 0 := by omega
  have j1 : ¬ 1099511627776 < more := by omega
  have j2 : ¬ 562949953421312 < net := by omega
  have j3 : ¬ 562949953421312 < prot := by omega
  obtain ⟨N2, hN2⟩ : ∃ q, net + more = q := ⟨_, rfl⟩
  obtain ⟨P2, hP2⟩ : ∃ q, prot + more = q := ⟨_, rfl⟩
  have e1 : IntKind.i64.wrap (net + more) = N2 := by rw [IntKind.wrap_i64]; omega
  have e2 : IntKind.i64.wrap (prot + more) = P2 := by rw [IntKind.wrap_i64]; omega
  have t1 : PGa.there net prot ≤ PGa.there N2 prot := by unfold PGa.there; omega
  have t2 : PGa.there net P2 ≤ PGa.there net prot := by unfold PGa.there; omega
  have C : Hid (∀ w' x y, Below w.heap.size w w' → Calls Try.prog 11 #[.int .i64 x, .int .i64 y, .slice A n ca] w' (ServeA (PGa.err x y l) n (PSplit.wlist (PGa.served (PGa.there x y) l) n) w')) := Lib.hid (fun w' x y hb => gaserve_any (h.on hb))
  have T1 := Lib.hid t1; have T2 := Lib.hid t2
  clear h t1 t2 m0 m1 g1 g2 g3 g4 hN2 hP2
  go_enter Try.func6, Try.ntmps6
  go_wp2_with fail
  go_loopw [40] (fun i wr => ∃ k : Nat, k ≤ n ∧ i = .int .i64 k ∧ Hid (PGa.Unlike l k) ∧ Hid (Below w.heap.size w wr)) (fun i _ => n - (intOf i).toNat)
  case atStart => exact ⟨0, Nat.zero_le _, rfl, (show Hid _ from fun i h => by omega), (show Hid _ from Below.refl _ _)⟩
  case round =>
    obtain ⟨k, hk, rfl, HU, HW⟩ := hrel
    by_cases hlt : k < n
    · have i1 : (0 : Int) ≤ (k : Int) := by omega
      have i2 : (k : Int) < (n : Int) := by omega
      go_wp2_with fail
      go_loopw [44] (fun i wy => ∃ j : Nat, j ≤ k ∧ i = .int .i64 j ∧ Hid (∀ t, t < j → PGa.pr l k ≠ PGa.pr l t) ∧ Hid (Below w.heap.size w wy)) (fun i _ => k - (intOf i).toNat)
      case atStart => exact ⟨0, Nat.zero_le _, rfl, (show Hid _ from fun i h => by omega), HW⟩
      case round =>
        obtain ⟨j, hj, rfl, HJ, HY⟩ := hrel
        by_cases hjt : j < k
        · obtain ⟨b, off, rfl, hc⟩ := (H.out.on HY.out).cells hlt
          have hkl : k < l.length := by rw [hl.out]; exact hlt
          have hjl : j < l.length := by omega
          obtain ⟨-, c1, -, -⟩ := hc k hkl
          obtain ⟨-, c2, -, -⟩ := hc j hjl
          obtain ⟨p, hp⟩ : ∃ p, l[k].p = p := ⟨_, rfl⟩
          obtain ⟨q, hq⟩ : ∃ q, l[j].p = q := ⟨_, rfl⟩
          rw [hp] at c1; rw [hq] at c2
          have hpk : PGa.pr l k = p := by unfold PGa.pr; rw [← hp]; simp [List.getD, hkl]
          have hpj : PGa.pr l j = q := by unfold PGa.pr; rw [← hq]; simp [List.getD, hjl]
          have i3 : (0 : Int) ≤ (j : Int) := by omega
          have i4 : (j : Int) < (n : Int) := by omega
          have i5 : (j : Int) < (k : Int) := by omega
          clear hc hp hq
          by_cases he : p = q
          · have e5 : (p == q) = true := by rw [he]; exact beq_self_eq_true _
            clear he hpk hpj
            go_wp2_with fail
            go_quiet (fail)
            have BQ : Hid (Below w.heap.size w (wr.drewN nq)) := Lib.hid (below_drewN HY.out _)
            generalize wr.drewN nq = wq at *
            clear c1 c2
            go_wp2_with fail
            refine (awake_any _).mono ?_
            rintro _ w9 ⟨rfl, b9⟩
            have B9 := Lib.hid (below_step BQ.out b9)
            clear b9
            go_wp2_with fail
            go_ret
            exact ⟨rfl, B9.out⟩
          · have e5 : (p == q) = false := beq_eq_false_iff_ne.2 he
            have HJ2 : Hid (∀ t, t < j + 1 → PGa.pr l k ≠ PGa.pr l t) := Lib.hid (fun t ht => by
              by_cases e : t = j
              · subst e; rw [hpk, hpj]; exact he
              · exact HJ.out t (by omega))
            clear he hpk hpj
            go_wp2_with fail
            go_quiet (fail)
            have BQ : Hid (Below w.heap.size w (wr.drewN nq)) := Lib.hid (below_drewN HY.out _)
            generalize wr.drewN nq = wq at *
            clear c1 c2
            go_wp2_with fail
            exact ⟨⟨j + 1, by omega, by congr 1, HJ2, BQ⟩, by simp [intOf]; omega⟩
        · obtain rfl : j = k := by omega
          have HU2 : Hid (PGa.Unlike l (j + 1)) := Lib.hid (fun i hi t ht => by
            by_cases e : i = j
            · subst e; exact HJ.out t ht
            · exact HU.out i (by omega) t ht)
          go_wp2_with fail
          exact ⟨⟨j + 1, by omega, by congr 1, HU2, HY⟩, by simp [intOf]; omega⟩
    · obtain rfl : k = n := by omega
      obtain ⟨E1, hE1⟩ : ∃ E, PGa.err net prot l = E := ⟨_, rfl⟩
      obtain ⟨E2, hE2⟩ : ∃ E, PGa.err N2 prot l = E := ⟨_, rfl⟩
      obtain ⟨E3, hE3⟩ : ∃ E, PGa.err net P2 l = E := ⟨_, rfl⟩
      have C1 := Lib.hid (fun w' h => C.out w' net prot h); have C2 := Lib.hid (fun w' h => C.out w' N2 prot h); have C3 := Lib.hid (fun w' h => C.out w' net P2 h)
      rw [hE1] at C1; rw [hE2] at C2; rw [hE3] at C3
      clear hE1 hE2 hE3 C
      go_wp2_with fail
      refine (C1.out _ HW.out).mono ?_
      rintro _ w3 ⟨S1, m1, c1, rfl, b3, y1, z1⟩
      have B3 := Lib.hid (below_step HW.out b3)
      have Y1 := Lib.hid y1
      clear b3 y1 z1
      go_wp2_with fail
      refine (C2.out _ B3.out).mono ?_
      rintro _ w4 ⟨S2, m2, c2, rfl, b4, y2, z2⟩
      have B4 := Lib.hid (below_step B3.out b4)
      have Y14 : Hid (E1 = 0 → m1 = k ∧ Sl w4 S1 k (PSplit.wlist (PGa.served (PGa.there net prot) l) k)) := Lib.hid (fun h => ⟨(Y1.out h).1, (Y1.out h).2.1.on b4⟩)
      have Y2 := Lib.hid y2
      clear b4 y2 z2
      go_wp2_with fail
      refine (C3.out _ B4.out).mono ?_
      rintro _ w5 ⟨S3, m3, c3, rfl, b5, y3, z3⟩
      have B5 := Lib.hid (below_step B4.out b5)
      have Y15 : Hid (E1 = 0 → m1 = k ∧ Sl w5 S1 k (PSplit.wlist (PGa.served (PGa.there net prot) l) k)) := Lib.hid (fun h => ⟨(Y14.out h).1, (Y14.out h).2.on b5⟩)
      have Y25 : Hid (E2 = 0 → m2 = k ∧ Sl w5 S2 k (PSplit.wlist (PGa.served (PGa.there N2 prot) l) k)) := Lib.hid (fun h => ⟨(Y2.out h).1, (Y2.out h).2.1.on b5⟩)
      have Y35 : Hid (E3 = 0 → m3 = k ∧ Sl w5 S3 k (PSplit.wlist (PGa.served (PGa.there net P2) l) k)) := Lib.hid (fun h => ⟨(y3 h).1, (y3 h).2.1⟩)
      clear b5 y3 z3 Y14 Y1 Y2 C1 C2 C3 e1 e2
      by_cases f1 : E1 = 0
      · by_cases f2 : E2 = 0
        · by_cases f3 : E3 = 0
          · obtain ⟨rfl, s1⟩ := Y15.out f1
            obtain ⟨rfl, s2⟩ := Y25.out f2
            obtain ⟨rfl, s3⟩ := Y35.out f3
            have S1' := Lib.hid s1; have S2' := Lib.hid s2; have S3' := Lib.hid s3
            have HUL : Hid (PGa.Unlike l l.length) := Lib.hid (by rw [hl.out]; exact HU.out)
            subst f1; subst f2; subst f3
            clear s1 s2 s3 Y15 Y25 Y35
            have e0 : ((0 : Int) != 0) = false := rfl
            have e3 : ((m3 : Int) != (m3 : Int)) = false := bne_self_eq_false _
            go_wp2_with fail
            clear e0 e3
            go_loopw [118] (fun i wy => ∃ j : Nat, j ≤ m3 ∧ i = .int .i64 j ∧ Hid (Below w5.heap.size w5 wy)) (fun i _ => m3 - (intOf i).toNat)
            case atStart => exact ⟨0, Nat.zero_le _, rfl, (show Hid _ from Below.refl _ _)⟩
            case round =>
              obtain ⟨j, hj, rfl, HY⟩ := hrel
              by_cases hjt : j < m3
              · obtain ⟨b1, o1, rfl, h1⟩ := ga_at (S1'.out.on HY.out) hjt
                obtain ⟨b2, o2, rfl, h2⟩ := ga_at (S2'.out.on HY.out) hjt
                obtain ⟨b3, o3, rfl, h3⟩ := ga_at (S3'.out.on HY.out) hjt
                have c1 := h1 j hjt; have c2 := h2 j hjt; have c3 := h3 j hjt
                rw [PSplit.wlist_get hjt] at c1 c2 c3
                have q1 := PGa.served_mono HUL.out T1.out (i := j) (by rw [hl.out]; exact hjt)
                have q2 := PGa.served_mono HUL.out T2.out (i := j) (by rw [hl.out]; exact hjt)
                obtain ⟨x1, hx1⟩ : ∃ x : Int, ((PGa.served (PGa.there net prot) l j : Nat) : Int) = x := ⟨_, rfl⟩
                obtain ⟨x2, hx2⟩ : ∃ x : Int, ((PGa.served (PGa.there N2 prot) l j : Nat) : Int) = x := ⟨_, rfl⟩
                obtain ⟨x3, hx3⟩ : ∃ x : Int, ((PGa.served (PGa.there net P2) l j : Nat) : Int) = x := ⟨_, rfl⟩
                rw [hx1] at c1; rw [hx2] at c2; rw [hx3] at c3
                have r1 : x1 ≤ x2 := by omega
                have r2 : x3 ≤ x1 := by omega
                have i3 : (0 : Int) ≤ (j : Int) := by omega
                have i4 : (j : Int) < (m3 : Int) := by omega
                have d1 : decide (x2 < x1) = false := decide_eq_false (by omega)
                have d2 : decide (x1 < x3) = false := decide_eq_false (by omega)
                clear h1 h2 h3 hx1 hx2 hx3 q1 q2 r1 r2
                go_wp2_with fail
                go_quiet (fail)
                have BQ : Hid (Below w5.heap.size w5 (wr.drewN nq)) := Lib.hid (below_drewN HY.out _)
                generalize wr.drewN nq = wq at *
                clear c1 c2 c3
                go_wp2_with fail
                exact ⟨⟨j + 1, by omega, by congr 1, BQ⟩, by simp [intOf]; omega⟩
              · obtain rfl : j = m3 := by omega
                have BZ := Lib.hid (below_step B5.out HY.out)
                go_wp2_with fail
                refine (awake_any _).mono ?_
                rintro _ w9 ⟨rfl, b9⟩
                have B9 := Lib.hid (below_step BZ.out b9)
                clear b9
                go_wp2_with fail
                go_ret
                exact ⟨rfl, B9.out⟩
          · have a1 : (E1 != 0) = false := by rw [f1]; rfl
            have a2 : (E2 != 0) = false := by rw [f2]; rfl
            have a3 : (E3 != 0) = true := bne_iff_ne.2 f3
            clear f1 f2 f3 Y15 Y25 Y35
            go_wp2_with fail
            refine (awake_any _).mono ?_
            rintro _ w9 ⟨rfl, b9⟩
            have B9 := Lib.hid (below_step B5.out b9)
            clear b9
            go_wp2_with fail
            go_ret
            exact ⟨rfl, B9.out⟩
        · have a1 : (E1 != 0) = false := by rw [f1]; rfl
          have a2 : (E2 != 0) = true := bne_iff_ne.2 f2
          clear f1 f2 Y15 Y25 Y35
          go_wp2_with fail
          refine (awake_any _).mono ?_
          rintro _ w9 ⟨rfl, b9⟩
          have B9 := Lib.hid (below_step B5.out b9)
          clear b9
          go_wp2_with fail
          go_ret
          exact ⟨rfl, B9.out⟩
      · have a1 : (E1 != 0) = true := bne_iff_ne.2 f1
        clear f1 Y15 Y25 Y35
        go_wp2_with fail
        refine (awake_any _).mono ?_
        rintro _ w9 ⟨rfl, b9⟩
        have B9 := Lib.hid (below_step B5.out b9)
        clear b9
        go_wp2_with fail
        go_ret
        exact ⟨rfl, B9.out⟩

set_option maxHeartbeats 3200000 in
theorem lgmore_out {A : Option Addr} {n ca : Nat} {w : World} {net prot more : Int} (hx : ¬ (n ≤ 8 ∧ 0 ≤ more ∧ more ≤ 1099511627776 ∧ net ≤ 562949953421312 ∧ prot ≤ 562949953421312)) :
    Calls Try.prog 6 #[.int .i64 net, .int .i64 prot, .int .i64 more, .slice A n ca] w fun e w' => e = .returned (.bool true) ∧ Below w.heap.size w w' := by
  have key : ∀ (P : Prop), (P → Calls Try.prog 6 #[.int .i64 net, .int .i64 prot, .int .i64 more, .slice A n ca] w fun e w' => e = .returned (.bool true) ∧ Below w.heap.size w w') → P → Calls Try.prog 6 #[.int .i64 net, .int .i64 prot, .int .i64 more, .slice A n ca] w fun e w' => e = .returned (.bool true) ∧ Below w.heap.size w w' := fun _ f h => f h
  clear key
  by_cases h1 : (8 : Int) < (n : Int)
  · clear hx
    go_enter Try.func6, Try.ntmps6
    go_wp2_with fail
    refine (awake_any _).mono ?_
    rintro _ w9 ⟨rfl, b9⟩
    have B9 := Lib.hid b9
    clear b9
    go_wp2_with fail
    go_ret
    exact ⟨rfl, B9.out⟩
  by_cases h2 : more < 0
  · clear hx
    go_enter Try.func6, Try.ntmps6
    go_wp2_with fail
    refine (awake_any _).mono ?_
    rintro _ w9 ⟨rfl, b9⟩
    have B9 := Lib.hid b9
    clear b9
    go_wp2_with fail
    go_ret
    exact ⟨rfl, B9.out⟩
  by_cases h3 : 1099511627776 < more
  · clear hx
    go_enter Try.func6, Try.ntmps6
    go_wp2_with fail
    refine (awake_any _).mono ?_
    rintro _ w9 ⟨rfl, b9⟩
    have B9 := Lib.hid b9
    clear b9
    go_wp2_with fail
    go_ret
    exact ⟨rfl, B9.out⟩
  by_cases h4 : 562949953421312 < net
  · clear hx
    go_enter Try.func6, Try.ntmps6
    go_wp2_with fail
    refine (awake_any _).mono ?_
    rintro _ w9 ⟨rfl, b9⟩
    have B9 := Lib.hid b9
    clear b9
    go_wp2_with fail
    go_ret
    exact ⟨rfl, B9.out⟩
  have h5 : 562949953421312 < prot := by omega
  clear hx
  go_enter Try.func6, Try.ntmps6
  go_wp2_with fail
  refine (awake_any _).mono ?_
  rintro _ w9 ⟨rfl, b9⟩
  have B9 := Lib.hid b9
  clear b9
  go_wp2_with fail
  go_ret
  exact ⟨rfl, B9.out⟩

theorem lgmore_walk (net prot more : Int) (A : Option Addr) (n ca : Nat) (l : List PGa.Ord) (w : World) (h1 : (Lit.int .i64 net).wf = true) (h2 : (Lit.int .i64 prot).wf = true) (_ : (Lit.int .i64 more).wf = true) (h : SlO w A n l) :
    Calls Try.prog 6 #[.int .i64 net, .int .i64 prot, .int .i64 more, .slice A n ca] w fun e w' => e = .returned (.bool true) ∧ Below w.heap.size w w' := by
  by_cases hx : n ≤ 8 ∧ 0 ≤ more ∧ more ≤ 1099511627776 ∧ net ≤ 562949953421312 ∧ prot ≤ 562949953421312
  · exact lgmore_in h hx.1 hx.2.1 hx.2.2.1 hx.2.2.2.1 hx.2.2.2.2 (i64_bounds h1).1 (i64_bounds h2).1
  · exact lgmore_out hx
end Go.Proofs.Ytmmgejgmlhhfdaa
