/-
  BracketsRows: with a row more, above the amount, the tax is the same; no part is below 0, nor above its row's width.
-/
import Derived.Test.YtdbadgnoognnnaaLaw05Awake
import Derived.Test.YtdbadgnoognnnaaRef05
import Derived.Test.YtdbadgnoognnnaaPairRows
import Derived.Deep.RegionHeld3
import Derived.Deep.DeepCutAuto
namespace Go.Proofs.Ytdbadgnoognnnaa
open Go.RowKit

theorem own_empty_at {w : World} {base E : Nat} (h : base ≤ w.heap.size) (hE : E = w.heap.size) : (w.alloc (.cells #[] 34)).ownsRow base 34 2 (.slice (some ⟨E, 0, none⟩) 0 0) 0 [] := by
  subst hE; exact own_empty w base h

set_option maxHeartbeats 3200000 in
set_option maxRecDepth 100000 in
theorem brows_in (X R j N : Nat) (z M u v : Int) (b off n cap : Nat) (hN : N = n + 1) (a r : Nat → Int) (w : World) (hA : SlP w (some ⟨b, off, none⟩) n a r) (hR : PBr.Rt a r n) (hj : n = j + 1) (hn : n ≤ 11) (hz : a j = z) (hz1 : z ≤ 2305843009213693952) (hM : M = max (X : Int) z + 1)
    (hu : u % 1099511627776 = (X : Int)) (hv : v % 10001 = (R : Int)) (u0 : 0 ≤ u) (u1 : u ≤ 18446744073709551615) (v0 : 0 ≤ v) (_v1 : v ≤ 65535) :
    Calls Try.prog 7 #[.slice (some ⟨b, off, none⟩) n cap, .int .u64 u, .int .u16 v] w fun e w' => e = .returned (.bool true) ∧ Below w.heap.size w w' := by
  have hX : X < 1099511627776 := by omega
  have hRb : R ≤ 10000 := by omega
  have hXM : (X : Int) < M := by omega
  have hzM : z < M := by omega
  have hM2 : M ≤ 2305843009213693953 := by omega
  have z0 : 0 ≤ z := by rw [← hz]; exact hR.nonneg (by omega)
  have hR2 : PBr.Rt (PBr.ext a n M) (PBr.ext r n R) N := hN ▸ PBr.rt_ext hR hn (by rw [hj, Nat.add_sub_cancel, hz]; exact hzM) (by omega) (by omega)
  have hcc := (slp_cells hA (show j < n by omega))
  obtain ⟨b', off', e', hc⟩ := hcc
  cases e'
  have C0 : Hid (∀ w, SlP w (some ⟨b, off, none⟩) n a r → Calls Try.prog 13 #[.slice (some ⟨b, off, none⟩) n cap] w fun e w' => e = .returned (.bool true) ∧ ∃ q, w' = w.drewN q) := Lib.hid (fun w h => reftable_any _ n cap a r w h true ⟨fun _ => hR, fun _ => rfl⟩)
  have T1 : Hid (∀ w, SlP w (some ⟨b, off, none⟩) n a r → Calls Try.prog 11 #[.slice (some ⟨b, off, none⟩) n cap, .int .i64 X] w fun e w' => e = .returned (.tuple #[.int .i64 ((PBr.tax a r n X : Nat) : Int), .int .i64 0]) ∧ Below w.heap.size w w') := Lib.hid (fun w h => tax_ok (cap := cap) (x := (X : Int)) h hR (by omega) (by omega))
  have T2 : Hid (∀ B c w, SlP w B N (PBr.ext a n M) (PBr.ext r n R) → Calls Try.prog 11 #[.slice B N c, .int .i64 X] w fun e w' => e = .returned (.tuple #[.int .i64 ((PBr.tax a r n X : Nat) : Int), .int .i64 0]) ∧ Below w.heap.size w w') := Lib.hid (fun B c w h => by
    have := tax_ok (cap := c) (x := (X : Int)) h hR2 (by omega) (by omega)
    rw [hN, PBr.tax_ext hR hXM] at this; rw [hN]; exact this)
  have T3 : Hid (∀ B c w, SlP w B N (PBr.ext a n M) (PBr.ext r n R) → Calls Try.prog 10 #[.slice B N c, .int .i64 X] w (SplR (PBr.ptL (PBr.ext a n M) N X) 0 w)) := Lib.hid (fun B c w h => parts_ok (cap := c) (x := (X : Int)) h hR2 (by omega) (by omega))
  have HA := Lib.hid hA; have HR := Lib.hid hR; have HR2 := Lib.hid hR2; have HC := Lib.hid hc
  have e1 : (n : Int) - 1 = (j : Int) := by omega
  have e3 : IntKind.i64.wrap (j : Int) = (j : Int) := by rw [IntKind.wrap_i64]; omega
  have j1 : (0 : Int) ≤ (j : Int) := by omega
  have j2 : (j : Int) < (n : Int) := by omega
  have a1 : ¬ (11 : Int) < (n : Int) := by omega
  have HZ := Lib.hid hz
  have c0 := (hc j (by omega)).1
  rw [hz] at c0
  generalize PBr.tax a r n (X : Int) = T at *
  have HN := Lib.hid hN
  clear hA hR hR2 hc hz hj hN
  go_enter Try.func7, Try.ntmps7
  go_wp2_with fail
  refine (C0.out _ HA.out).mono ?_
  rintro _ _ ⟨rfl, q, rfl⟩
  have b1 : Below w.heap.size w (w.drewN q) := below_drewN (Below.refl _ _) _
  have HA1 := Lib.hid (HA.out.on b1); have B1 := Lib.hid b1
  have c1 := (b1.cell (World.block_lt_of_cell? w _ c0)).trans c0
  clear b1 HA C0 c0
  generalize w.drewN q = w1 at *
  go_upto_region 4 with fail
  have HC1 : Hid (∀ w', Below w1.heap.size w1 w' → ∀ i, i < n → w'.cell? ⟨b, off + i * 2, none⟩ = some (.int .i64 (a i)) ∧ w'.cell? ⟨b, off + i * 2 + 1, none⟩ = some (.int .i64 (r i))) := Lib.hid (fun w' hb' i hi => by
    have hcw := HC.out i hi
    have hb2 := below_step B1.out hb'
    exact ⟨(hb2.cell (World.block_lt_of_cell? w _ hcw.1)).trans hcw.1, (hb2.cell (World.block_lt_of_cell? w _ hcw.2)).trans hcw.2⟩)
  have hbl : b < w1.heap.size := World.block_lt_of_cell? w1 _ c1
  have HBD : Hid (∀ i, i < N → (-9223372036854775808 ≤ PBr.ext a n M i ∧ PBr.ext a n M i ≤ 9223372036854775807) ∧ -9223372036854775808 ≤ PBr.ext r n R i ∧ PBr.ext r n R i ≤ 9223372036854775807) := Lib.hid (fun i hi => by
    by_cases e : i = n
    · subst e; rw [PBr.ext_at, PBr.ext_at]; omega
    · have := HN.out; rw [PBr.ext_lt (by omega), PBr.ext_lt (by omega)]
      exact HA1.out.1 i (by omega))
  go_cut [8] (fun mv wx => ∃ B c, mv = .slice B N c ∧ SlP wx B N (PBr.ext a n M) (PBr.ext r n R) ∧ Below w1.heap.size w1 wx)
  case first =>
    have d1 : IntKind.i64.wrap (max (X : Int) z + 1) = M := by rw [IntKind.wrap_i64]; omega
    clear hM
    have d2 : IntKind.i64.wrap (v.tmod 10001) = (R : Int) := by rw [Int.tmod_eq_emod_of_nonneg v0, hv, IntKind.wrap_i64]; omega
    go_region_held3 (fun w' => w'.cell? ⟨b, off + j * 2, none⟩ = some (.int .i64 z))
      (first
        | go_keep
        | (refine hc3 _ _ ?_ (fun e => ?_) <;> first | assumption | (simp [Value.ownBlock] at e; omega) | (go_simp; done))
        | (refine hc4 _ _ ?_ (fun e => ?_) <;> first | assumption | (have h7 : w1.heap.size ≤ b := (hp3.lt _ e).1; omega) | (go_simp; done)))
      (first
        | ((refine step_append_slp _ (by rfl) _ _ (by rfl) w1.heap.size (.slice (some ⟨w1.heap.size, 0, none⟩) 0 0) 0 [] (by rfl) (by first | exact own_empty_at (by simp) (by simp) | exact (own_empty_at (by simp) (by simp)).alloc _) b off n cap a r (by rfl) (HC1.out _ (by repeat' (first | exact Below.refl _ _ | apply Below.drew | (refine Below.alloc ?_ ?_ _) | (simp; done) | (simp; omega)))) (by omega) (by omega) (by first | (simp; done) | (simp; omega)) ?_; intro v3 w3 hp3 hb3 hc3; rw [Nat.zero_add, List.nil_append] at hp3))
        | ((refine step_append_slp _ (by rfl) _ _ (by rfl) w1.heap.size (.slice (some ⟨w1.heap.size + 1, 0, none⟩) 0 0) 0 [] (by rfl) (by first | exact own_empty_at (by simp) (by simp) | exact (own_empty_at (by simp) (by simp)).alloc _) b off n cap a r (by rfl) (HC1.out _ (by repeat' (first | exact Below.refl _ _ | apply Below.drew | (refine Below.alloc ?_ ?_ _) | (simp; done) | (simp; omega)))) (by omega) (by omega) (by first | (simp; done) | (simp; omega)) ?_; intro v3 w3 hp3 hb3 hc3; rw [Nat.zero_add, List.nil_append] at hp3))
        | ((refine step_append_pair _ (by rfl) _ _ (by rfl) w1.heap.size v3 n _ M R (by rfl) (by first | exact hp3 | exact hp3.alloc _) _ (by rfl) (by first | (go_simp; done) | (refine hc3 _ _ ?_ (fun e => ?_) <;> first | (simp [Value.ownBlock] at e; done) | (go_simp; done))) (by first | (go_simp; done) | (refine hc3 _ _ ?_ (fun e => ?_) <;> first | (simp [Value.ownBlock] at e; done) | (go_simp; done))) (by omega) (by have := hb3.size; simp at this ⊢; omega) ?_; intro v4 w4 hp4 hb4 hk4 hc4)))
    all_goals
      have B3 : Below w1.heap.size w1 w3 := by
        refine Below.trans ?_ hb3
        repeat' (first | exact Below.refl _ _ | apply Below.drew | (refine Below.alloc ?_ ?_ _) | (simp; done) | (simp; omega))
      have hs3 := B3.size
      have B4 : Below w1.heap.size w1 w4 := by
        refine Below.trans ?_ hb4
        repeat' (first | exact B3 | exact B3.alloc hs3 _)
      have hp5 : w4.ownsRow w1.heap.size 34 2 v4 N (cellsP (PBr.ext a n M) (PBr.ext r n R) N) := by
        rw [HN.out, cellsP_next, PBr.ext_at, PBr.ext_at, cellsP_congr (fun i hi => ⟨PBr.ext_lt hi, PBr.ext_lt hi⟩)]; exact hp4
      obtain ⟨B, c, rfl, -, -, s4⟩ := slp_of_own hp5 HBD.out (by have := HN.out; omega)
      clear hc3 hk4 hc4 hb3 hb4 hp3 hp4 hp5
      go_wp2_with fail
      go_meet
      exact ⟨B, c, rfl, s4, B4⟩
  case rest =>
    obtain ⟨B, c, rfl, s4, b4⟩ := hcut
    have S4 := Lib.hid s4; have B4 := Lib.hid (below_step B1.out b4)
    have HA4 := Lib.hid (HA1.out.on b4)
    clear s4 b4 HC HC1 HBD HA1 B1 c1 hbl e1 e3 j1 j2 hM
    go_wp2_with fail
    refine (T1.out _ HA4.out).mono ?_
    rintro _ w5 ⟨rfl, b5⟩
    have S5 := Lib.hid (S4.out.on b5); have B5 := Lib.hid (below_step B4.out b5)
    clear b5 S4 B4 HA4 T1
    go_wp2_with fail
    refine (T2.out _ _ _ S5.out).mono ?_
    rintro _ w6 ⟨rfl, b6⟩
    have S6 := Lib.hid (S5.out.on b6); have B6 := Lib.hid (below_step B5.out b6)
    clear b6 S5 B5 T2
    go_wp2_with fail
    refine (T3.out _ _ _ S6.out).mono ?_
    rintro _ w7 ⟨P, m, pc, rfl, -, -, hs, b7⟩
    obtain rfl : m = N := by have := hs.1; rw [PBr.ptL_len] at this; exact this.symm
    have hm0 : 0 < m := by have := HN.out; omega
    have hm12 : m ≤ 12 := by have := HN.out; omega
    obtain ⟨pb, po, rfl, hpc⟩ : ∃ pb po, P = some ⟨pb, po, none⟩ ∧ ∀ i, i < m → w7.cell? ⟨pb, po + i, none⟩ = some (.int .i64 (PBr.pt (PBr.ext a n M) m i X)) := by
      rcases hs.2.2.2 with h | ⟨pb, po, h, hcell⟩
      · exfalso; subst h; have := hs.1; rw [PBr.ptL_len] at this; omega
      · exact ⟨pb, po, h, fun i hi => by rw [hcell i hi, PBr.ptL_get hi]⟩
    have S7 := Lib.hid (S6.out.on b7); have B7 := Lib.hid (below_step B6.out b7)
    have HP := Lib.hid hpc
    clear b7 S6 B6 T3 hs hpc
    go_wp2_with fail
    go_loopw [95] (fun i wr => ∃ (k : Nat), k ≤ m ∧ i = .int .i64 k ∧ Hid (Below w7.heap.size w7 wr)) (fun i _ => m - (intOf i).toNat)
    case atStart => exact ⟨0, Nat.zero_le _, rfl, (show Hid _ from Below.refl _ _)⟩
    case round =>
      obtain ⟨k, hk, rfl, HB⟩ := hrel
      by_cases hlt : k < m
      · obtain ⟨mb, mo, rfl, hmc⟩ := slp_cells (S7.out.on HB.out) hlt
        have c1 := (HB.out.cell (World.block_lt_of_cell? w7 _ (HP.out k hlt))).trans (HP.out k hlt)
        have hp0 := PBr.pt_nonneg (i := k) (x := (X : Int)) HR2.out
        have i1 : (0 : Int) ≤ (k : Int) := by omega
        have i2 : (k : Int) < (m : Int) := by omega
        by_cases hk1 : k + 1 < m
        · obtain ⟨t, ht⟩ : ∃ t, t = k + 1 := ⟨_, rfl⟩
          have hw := PBr.pt_width (x := (X : Int)) HR2.out hk1
          rw [← ht] at hw hk1
          have c2 := (hmc k hlt).1
          have c3 := (hmc t hk1).1
          have bx := ((S7.out.1 k hlt).1)
          have x0 := HR2.out.nonneg hlt
          have y0 := HR2.out.nonneg hk1
          have by' := ((S7.out.1 t hk1).1)
          generalize PBr.pt (PBr.ext a n M) m k (X : Int) = p at *
          generalize PBr.ext a n M k = x at *
          generalize PBr.ext a n M t = y at *
          have t1 : (k : Int) + 1 = (t : Int) := by omega
          have t2 : IntKind.i64.wrap (t : Int) = (t : Int) := by rw [IntKind.wrap_i64]; omega
          have t3 : (t : Int) < (m : Int) := by omega
          have t4 : (0 : Int) ≤ (t : Int) := by omega
          obtain ⟨d, hd⟩ : ∃ d, y - x = d := ⟨_, rfl⟩
          have d1 : IntKind.i64.wrap d = d := by rw [IntKind.wrap_i64]; omega
          have g1 : decide (p < 0) = false := decide_eq_false (by omega)
          have g2 : decide (t < m) = true := decide_eq_true hk1
          have g3 : decide (d < p) = false := decide_eq_false (by omega)
          clear hmc bx x0 y0 by' hp0 hw ht
          go_wp2_with fail
          go_big_quiet (fail)
          go_wp2_with fail
          exact ⟨⟨t, by omega, rfl, Lib.hid (below_drewN HB.out _)⟩, by simp [intOf]; omega⟩
        · obtain ⟨t, ht⟩ : ∃ t, t = k + 1 := ⟨_, rfl⟩
          rw [← ht] at hk1
          generalize PBr.pt (PBr.ext a n M) m k (X : Int) = p at *
          have t1 : (k : Int) + 1 = (t : Int) := by omega
          have t2 : IntKind.i64.wrap (t : Int) = (t : Int) := by rw [IntKind.wrap_i64]; omega
          have g1 : decide (p < 0) = false := decide_eq_false (by omega)
          have g2 : decide (t < m) = false := decide_eq_false hk1
          have g3 : ¬ (t : Int) < (m : Int) := by omega
          clear hmc hp0 ht
          go_wp2_with fail
          go_big_quiet (fail)
          go_wp2_with fail
          exact ⟨⟨t, by omega, rfl, Lib.hid (below_drewN HB.out _)⟩, by simp [intOf]; omega⟩
      · obtain rfl : k = m := by omega
        have hnk : n < k := by have := HN.out; omega
        have c1 := (HB.out.cell (World.block_lt_of_cell? w7 _ (HP.out n hnk))).trans (HP.out n hnk)
        rw [show k = n + 1 from HN.out, PBr.pt_ext_last hXM] at c1
        have i1 : (0 : Int) ≤ (n : Int) := by omega
        have i2 : (n : Int) < (k : Int) := by omega
        have tt : ((T : Int) == (T : Int)) = true := beq_self_eq_true _
        have B8 := Lib.hid (below_step B7.out HB.out)
        go_wp2_with fail
        refine (awake_any _).mono ?_
        rintro _ w9 ⟨rfl, b9⟩
        have B9 := Lib.hid (below_step B8.out b9)
        clear b9
        go_wp2_with fail
        go_ret
        exact ⟨rfl, B9.out⟩

set_option maxHeartbeats 1600000 in
theorem brows_walk (A : Option Addr) (n cap : Nat) (a r : Nat → Int) (u v : Int) (w : World) (hA : SlP w A n a r) (hu : (Lit.int .u64 u).wf = true) (hv : (Lit.int .u16 v).wf = true) :
    Calls Try.prog 7 #[.slice A n cap, .int .u64 u, .int .u16 v] w fun e w' => e = .returned (.bool true) ∧ Below w.heap.size w w' := by
  obtain ⟨u0, u1⟩ := u64_bounds hu
  obtain ⟨v0, v1⟩ := u16_bounds hv
  have hm := hA.2.1
  obtain ⟨X, hX⟩ : ∃ X : Nat, u % 1099511627776 = (X : Int) := ⟨(u % 1099511627776).toNat, by omega⟩
  obtain ⟨R, hR0⟩ : ∃ X : Nat, v % 10001 = (X : Int) := ⟨(v % 10001).toNat, by omega⟩
  by_cases hn : 11 < n
  · have a1 : (11 : Int) < (n : Int) := by omega
    clear hA hu hv
    go_enter Try.func7, Try.ntmps7
    go_wp2_with fail
    refine (awake_any _).mono ?_
    rintro _ w1 ⟨rfl, b1⟩
    go_wp2_with fail
    go_ret
    exact ⟨rfl, b1⟩
  by_cases hR : PBr.Rt a r n
  · obtain ⟨b, off, rfl, hc⟩ := slp_cells hA hR.1.1
    obtain ⟨j, hj⟩ : ∃ j, n = j + 1 := ⟨n - 1, by have := hR.1.1; omega⟩
    obtain ⟨z, hz⟩ : ∃ z, a j = z := ⟨_, rfl⟩
    by_cases hz1 : z ≤ 2305843009213693952
    · exact brows_in X R j (n + 1) z (max (X : Int) z + 1) u v b off n cap rfl a r w hA hR hj (by omega) hz hz1 rfl hX hR0 u0 u1 v0 v1
    · have a1 : ¬ (11 : Int) < (n : Int) := by omega
      have e1 : (n : Int) - 1 = (j : Int) := by omega
      have e3 : IntKind.i64.wrap (j : Int) = (j : Int) := by rw [IntKind.wrap_i64]; omega
      have j1 : (0 : Int) ≤ (j : Int) := by omega
      have j2 : (j : Int) < (n : Int) := by omega
      have c0 := (hc j (by omega)).1
      rw [hz] at c0
      have C0 := Lib.hid (reftable_any (some ⟨b, off, none⟩) n cap a r w hA true ⟨fun _ => hR, fun _ => rfl⟩)
      have z2 : 2305843009213693952 < z := by omega
      clear hA hR hu hv hc hj hz hX hR0 hz1
      go_enter Try.func7, Try.ntmps7
      go_wp2_with fail
      refine C0.out.mono ?_
      rintro _ _ ⟨rfl, q, rfl⟩
      have b1 : Below w.heap.size w (w.drewN q) := below_drewN (Below.refl _ _) _
      have B1 := Lib.hid b1
      have c1 := (b1.cell (World.block_lt_of_cell? w _ c0)).trans c0
      clear b1 C0 c0
      generalize w.drewN q = w1 at *
      go_wp2_with fail
      refine (awake_any _).mono ?_
      rintro _ w2 ⟨rfl, b2⟩
      have B2 := Lib.hid (below_step B1.out b2)
      clear b2
      go_wp2_with fail
      go_ret
      exact ⟨rfl, B2.out⟩
  · have a1 : ¬ (11 : Int) < (n : Int) := by omega
    have C0 := Lib.hid (reftable_any A n cap a r w hA false ⟨fun h => (by cases h), fun h => absurd h hR⟩)
    clear hA hR hX hR0 hu hv
    go_enter Try.func7, Try.ntmps7
    go_wp2_with fail
    refine C0.out.mono ?_
    rintro _ _ ⟨rfl, q, rfl⟩
    go_wp2_with fail
    refine (awake_any _).mono ?_
    rintro _ w1 ⟨rfl, b1⟩
    have B1 := Lib.hid (below_step (below_drewN (Below.refl w.heap.size w) q) b1)
    clear b1
    go_wp2_with fail
    go_ret
    exact ⟨rfl, B1.out⟩
end Go.Proofs.Ytdbadgnoognnnaa
