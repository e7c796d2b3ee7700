/-
  BracketsSplit: a row that is parted in two, of the same Rate, turns no tax by more than 1; the parts of both are the part.
-/
import Derived.Test.YtdbadgnoognnnaaLaw05Rows
import Derived.StillTailTactics
namespace Go.Proofs.Ytdbadgnoognnnaa
open Go.RowKit

set_option maxHeartbeats 6400000 in
set_option maxRecDepth 100000 in
theorem bsplit_in (X K j N : Nat) (z ρ M u v : Int) (b off n cap : Nat) (hN : N = n + 1) (a r : Nat → Int) (w : World) (hA : SlP w (some ⟨b, off, none⟩) n a r) (hR : PBr.Rt a r n) (hj : n = j + 1) (hn : n ≤ 11) (hz : a j = z) (hρ : r j = ρ) (hz1 : z ≤ 1152921504606846976) (hM : M = z + 1 + K)
    (hu : u / 16 = (X : Int)) (hv : v / 16 = (K : Int)) (u0 : 0 ≤ u) (u1 : u ≤ 18446744073709551615) (v0 : 0 ≤ v) (v1 : v ≤ 18446744073709551615) :
    Calls Try.prog 8 #[.slice (some ⟨b, off, none⟩) n cap, .int .u64 u, .int .u64 v] w fun e w' => e = .returned (.bool true) ∧ Below w.heap.size w w' := by
  have hX : X ≤ 1152921504606846975 := by omega
  have hK : K ≤ 1152921504606846975 := by omega
  have hzM : z < M := by omega
  have hM2 : M ≤ 2305843009213693952 := by omega
  have z0 : 0 ≤ z := by rw [← hz]; exact hR.nonneg (by omega)
  have hρb := (hR.2 j (by omega)).1
  rw [hρ] at hρb
  have hj1 : a (n - 1) < M := by rw [hj, Nat.add_sub_cancel, hz]; exact hzM
  have hrj : r (n - 1) = ρ := by rw [hj, Nat.add_sub_cancel, hρ]
  have hR2 : PBr.Rt (PBr.ext a n M) (PBr.ext r n ρ) N := hN ▸ PBr.rt_ext hR hn hj1 hρb.1 hρb.2
  obtain ⟨f1, f2⟩ := PBr.tax_split (x := (X : Int)) hR hj1
  rw [hrj, ← hN] at f1 f2
  have f3 := PBr.tax_le (x := (X : Int)) hR (by omega)
  have f4 := PBr.pt_split (x := (X : Int)) hR hj1
  rw [show n - 1 = j by omega, ← hN] at f4
  have hcc := (slp_cells hA (show j < n by omega))
  obtain ⟨b', off', e', hc⟩ := hcc
  cases e'
  have C0 : Hid (∀ w, SlP w (some ⟨b, off, none⟩) n a r → Calls Try.prog 13 #[.slice (some ⟨b, off, none⟩) n cap] w fun e w' => e = .returned (.bool true) ∧ ∃ q, w' = w.drewN q) := Lib.hid (fun w h => reftable_any _ n cap a r w h true ⟨fun _ => hR, fun _ => rfl⟩)
  have T1 : Hid (∀ w, SlP w (some ⟨b, off, none⟩) n a r → Calls Try.prog 11 #[.slice (some ⟨b, off, none⟩) n cap, .int .i64 X] w fun e w' => e = .returned (.tuple #[.int .i64 ((PBr.tax a r n X : Nat) : Int), .int .i64 0]) ∧ Below w.heap.size w w') := Lib.hid (fun w h => tax_ok (cap := cap) (x := (X : Int)) h hR (by omega) (by omega))
  have T2 : Hid (∀ B c w, SlP w B N (PBr.ext a n M) (PBr.ext r n ρ) → Calls Try.prog 11 #[.slice B N c, .int .i64 X] w fun e w' => e = .returned (.tuple #[.int .i64 ((PBr.tax (PBr.ext a n M) (PBr.ext r n ρ) N X : Nat) : Int), .int .i64 0]) ∧ Below w.heap.size w w') := Lib.hid (fun B c w h => tax_ok (cap := c) (x := (X : Int)) h hR2 (by omega) (by omega))
  have T3 : Hid (∀ w, SlP w (some ⟨b, off, none⟩) n a r → Calls Try.prog 10 #[.slice (some ⟨b, off, none⟩) n cap, .int .i64 X] w (SplR (PBr.ptL a n X) 0 w)) := Lib.hid (fun w h => parts_ok (cap := cap) (x := (X : Int)) h hR (by omega) (by omega))
  have T4 : Hid (∀ B c w, SlP w B N (PBr.ext a n M) (PBr.ext r n ρ) → Calls Try.prog 10 #[.slice B N c, .int .i64 X] w (SplR (PBr.ptL (PBr.ext a n M) N X) 0 w)) := Lib.hid (fun B c w h => parts_ok (cap := c) (x := (X : Int)) h hR2 (by omega) (by omega))
  have HA := Lib.hid hA; have HR := Lib.hid hR; have HC := Lib.hid hc; have HN := Lib.hid hN; have F4 := Lib.hid f4; have HJ := Lib.hid hj
  have HPB : Hid ((0 ≤ PBr.pt a n j X ∧ PBr.pt a n j X ≤ X) ∧ (0 ≤ PBr.pt (PBr.ext a n M) N j X ∧ PBr.pt (PBr.ext a n M) N j X ≤ X) ∧ 0 ≤ PBr.pt (PBr.ext a n M) N n X ∧ PBr.pt (PBr.ext a n M) N n X ≤ X) := Lib.hid ⟨⟨PBr.pt_nonneg hR, PBr.pt_le hR (by omega) (by omega)⟩, ⟨PBr.pt_nonneg hR2, PBr.pt_le hR2 (by omega) (by omega)⟩, PBr.pt_nonneg hR2, PBr.pt_le hR2 (by omega) (by omega)⟩
  have e1 : (n : Int) - 1 = (j : Int) := by omega
  have e3 : IntKind.i64.wrap (j : Int) = (j : Int) := by rw [IntKind.wrap_i64]; omega
  have j1 : (0 : Int) ≤ (j : Int) := by omega
  have j2 : (j : Int) < (n : Int) := by omega
  have a1 : ¬ (11 : Int) < (n : Int) := by omega
  have HM := Lib.hid hM
  obtain ⟨c0, cr0⟩ := hc j (by omega)
  rw [hz] at c0; rw [hρ] at cr0
  have HRB := Lib.hid hρb
  generalize PBr.tax a r n (X : Int) = T at *
  generalize PBr.tax (PBr.ext a n M) (PBr.ext r n ρ) N (X : Int) = T' at *
  clear hA hR hR2 hc hz hj hN hM f4 hj1 hrj hρ hρb
  go_enter Try.func8, Try.ntmps8
  go_wp2_with fail
  refine (C0.out _ HA.out).mono ?_
  rintro _ _ ⟨rfl, q, rfl⟩
  have b1 : Below w.heap.size w (w.drewN q) := below_drewN (Below.refl _ _) _
  have HA1 := Lib.hid (HA.out.on b1); have B1 := Lib.hid b1
  have c1 := (b1.cell (World.block_lt_of_cell? w _ c0)).trans c0
  have cr1 := (b1.cell (World.block_lt_of_cell? w _ cr0)).trans cr0
  clear b1 HA C0 c0 cr0
  generalize w.drewN q = w1 at *
  go_upto_region 7 with fail
  obtain ⟨L, hL⟩ : ∃ L, L = w1.heap.size := ⟨_, rfl⟩
  obtain ⟨w2, hw2⟩ : ∃ w2, w2 = w1.alloc (.cells #[.int .i64 z, .int .i64 ρ] 34) := ⟨_, rfl⟩
  rw [← hw2]
  have cz : w2.cell? ⟨L, 0, none⟩ = some (.int .i64 z) := by rw [hw2, hL]; go_simp
  have cρ : w2.cell? ⟨L, 1, none⟩ = some (.int .i64 ρ) := by rw [hw2, hL]; go_simp
  have hLw : w2.heap.size = L + 1 := by rw [hw2, hL]; simp
  have b12 : Below w1.heap.size w1 w2 := by rw [hw2]; exact (Below.refl _ _).alloc (Nat.le_refl _) _
  have HA2 := Lib.hid (HA1.out.on b12); have B2 := Lib.hid (below_step B1.out b12)
  have HC1 : Hid (∀ w', Below w2.heap.size w2 w' → ∀ i, i < n → w'.cell? ⟨b, off + i * 2, none⟩ = some (.int .i64 (a i)) ∧ w'.cell? ⟨b, off + i * 2 + 1, none⟩ = some (.int .i64 (r i))) := Lib.hid (fun w' hb' i hi => by
    have hcw := HC.out i hi
    have hb2 := below_step B2.out hb'
    exact ⟨(hb2.cell (World.block_lt_of_cell? w _ hcw.1)).trans hcw.1, (hb2.cell (World.block_lt_of_cell? w _ hcw.2)).trans hcw.2⟩)
  have HLw := Lib.hid hLw
  have hbl : L < w2.heap.size := by omega
  rw [← hL]
  clear hw2 b12 HA1 B1 c1 cr1 hL hLw HC
  clear w1
  have HBD : Hid (∀ i, i < N → (-9223372036854775808 ≤ PBr.ext a n M i ∧ PBr.ext a n M i ≤ 9223372036854775807) ∧ -9223372036854775808 ≤ PBr.ext r n ρ i ∧ PBr.ext r n ρ i ≤ 9223372036854775807) := Lib.hid (fun i hi => by
    by_cases e : i = n
    · subst e; rw [PBr.ext_at, PBr.ext_at]; have := HRB.out; omega
    · have := HN.out; rw [PBr.ext_lt (by omega), PBr.ext_lt (by omega)]
      exact HA2.out.1 i (by omega))
  go_cut [9] (fun mv wx => ∃ B c, mv = .slice B N c ∧ SlP wx B N (PBr.ext a n M) (PBr.ext r n ρ) ∧ Below w2.heap.size w2 wx)
  case first =>
    have d1 : (z + 1) + (K : Int) = M := HM.out.symm
    have d2 : IntKind.i64.wrap M = M := by rw [IntKind.wrap_i64]; omega
    have d3 : IntKind.i64.wrap (K : Int) = (K : Int) := by rw [IntKind.wrap_i64]; omega
    have d4 : IntKind.i64.wrap (z + 1) = z + 1 := by rw [IntKind.wrap_i64]; omega
    go_region_held3 (fun w' => w'.cell? ⟨L, 0, none⟩ = some (.int .i64 z) ∧ w'.cell? ⟨L, 1, none⟩ = some (.int .i64 ρ))
      (first
        | go_keep
        | (refine ⟨?_, ?_⟩ <;> first | go_keep | (refine hc3 _ _ ?_ (fun e => ?_) <;> first | assumption | (simp [Value.ownBlock] at e; omega) | (go_simp; done)) | (refine hc4 _ _ ?_ (fun e => ?_) <;> first | assumption | (have h7 : w2.heap.size ≤ L := (hp3.lt _ e).1; omega) | (go_simp; done))))
      (first
        | ((refine step_append_slp _ (by rfl) _ _ (by rfl) w2.heap.size (.slice (some ⟨w2.heap.size, 0, none⟩) 0 0) 0 [] (by rfl) (by first | exact own_empty_at (by simp) (by simp) | exact (own_empty_at (by simp) (by simp)).alloc _) b off n cap a r (by rfl) (HC1.out _ (by repeat' (first | exact Below.refl _ _ | apply Below.drew | (refine Below.alloc ?_ ?_ _) | (simp; done) | (simp; omega)))) (by omega) (by omega) (by first | (simp; done) | (simp; omega)) ?_; intro v3 w3 hp3 hb3 hc3; rw [Nat.zero_add, List.nil_append] at hp3))
        | ((refine step_append_slp _ (by rfl) _ _ (by rfl) w2.heap.size (.slice (some ⟨w2.heap.size + 1, 0, none⟩) 0 0) 0 [] (by rfl) (by first | exact own_empty_at (by simp) (by simp) | exact (own_empty_at (by simp) (by simp)).alloc _) b off n cap a r (by rfl) (HC1.out _ (by repeat' (first | exact Below.refl _ _ | apply Below.drew | (refine Below.alloc ?_ ?_ _) | (simp; done) | (simp; omega)))) (by omega) (by omega) (by first | (simp; done) | (simp; omega)) ?_; intro v3 w3 hp3 hb3 hc3; rw [Nat.zero_add, List.nil_append] at hp3))
        | ((refine step_append_pair _ (by rfl) _ _ (by rfl) w2.heap.size v3 n _ M ρ (by rfl) (by first | exact hp3 | exact hp3.alloc _) _ (by rfl) (by first | (go_simp; done) | (refine hc3 _ _ ?_ (fun e => ?_) <;> first | (simp [Value.ownBlock] at e; done) | (go_simp; done))) (by first | (go_simp; done) | (refine hc3 _ _ ?_ (fun e => ?_) <;> first | (simp [Value.ownBlock] at e; done) | (go_simp; done))) (by omega) (by have := hb3.size; simp at this ⊢; omega) ?_; intro v4 w4 hp4 hb4 hk4 hc4)))
    all_goals
      have B3 : Below w2.heap.size w2 w3 := by
        refine Below.trans ?_ hb3
        repeat' (first | exact Below.refl _ _ | apply Below.drew | (refine Below.alloc ?_ ?_ _) | (simp; done) | (simp; omega))
      have hs3 := B3.size
      have B4 : Below w2.heap.size w2 w4 := by
        refine Below.trans ?_ hb4
        repeat' (first | exact B3 | exact B3.alloc hs3 _)
      have hp5 : w4.ownsRow w2.heap.size 34 2 v4 N (cellsP (PBr.ext a n M) (PBr.ext r n ρ) N) := by
        rw [HN.out, cellsP_next, PBr.ext_at, PBr.ext_at, cellsP_congr (fun i hi => ⟨PBr.ext_lt hi, PBr.ext_lt hi⟩)]; exact hp4
      obtain ⟨B, c, rfl, -, -, s4⟩ := slp_of_own hp5 HBD.out (by have := HN.out; omega)
      clear hc3 hk4 hc4 hb3 hb4 hp3 hp4 hp5
      go_wp2_with fail
      go_meet
      exact ⟨B, c, rfl, s4, B4⟩
  case rest =>
    obtain ⟨B, c, rfl, s4, b4⟩ := hcut
    have S4 := Lib.hid s4; have B4 := Lib.hid (below_step B2.out b4)
    have HA4 := Lib.hid (HA2.out.on b4)
    clear s4 b4 HC1 HBD HA2 B2 cz cρ hbl HLw
    go_wp2_with fail
    refine (T1.out _ HA4.out).mono ?_
    rintro _ w5 ⟨rfl, b5⟩
    have S5 := Lib.hid (S4.out.on b5); have HA5 := Lib.hid (HA4.out.on b5); have B5 := Lib.hid (below_step B4.out b5)
    clear b5 S4 B4 HA4 T1
    go_wp2_with fail
    refine (T2.out _ _ _ S5.out).mono ?_
    rintro _ w6 ⟨rfl, b6⟩
    have S6 := Lib.hid (S5.out.on b6); have HA6 := Lib.hid (HA5.out.on b6); have B6 := Lib.hid (below_step B5.out b6)
    clear b6 S5 HA5 B5 T2
    go_wp2_with fail
    refine (T3.out _ HA6.out).mono ?_
    rintro _ w7 ⟨P, m, pc, rfl, -, -, hs, b7⟩
    obtain rfl : m = n := by have := hs.1; rw [PBr.ptL_len] at this; exact this.symm
    obtain ⟨pb, po, rfl, hp⟩ : ∃ pb po, P = some ⟨pb, po, none⟩ ∧ w7.cell? ⟨pb, po + j, none⟩ = some (.int .i64 (PBr.pt a m j X)) := by
      rcases hs.2.2.2 with h | ⟨pb, po, h, hcell⟩
      · exfalso; have := HJ.out; omega
      · exact ⟨pb, po, h, by have := HJ.out; rw [hcell j (by omega), PBr.ptL_get (by omega)]⟩
    have S7 := Lib.hid (S6.out.on b7); have B7 := Lib.hid (below_step B6.out b7); have HP := Lib.hid hp
    clear b7 S6 HA6 B6 T3 hs hp
    go_wp2_with fail
    refine (T4.out _ _ _ S7.out).mono ?_
    rintro _ w8 ⟨Q, m2, qc, rfl, -, -, hs, b8⟩
    obtain rfl : m2 = N := by have := hs.1; rw [PBr.ptL_len] at this; exact this.symm
    obtain ⟨qb, qo, rfl, hq⟩ : ∃ pb po, Q = some ⟨pb, po, none⟩ ∧ ∀ i, i < m2 → w8.cell? ⟨pb, po + i, none⟩ = some (.int .i64 (PBr.pt (PBr.ext a m M) m2 i X)) := by
      rcases hs.2.2.2 with h | ⟨pb, po, h, hcell⟩
      · exfalso; have := HN.out; omega
      · exact ⟨pb, po, h, fun i hi => by rw [hcell i hi, PBr.ptL_get hi]⟩
    have c1 := (b8.cell (World.block_lt_of_cell? w7 _ HP.out)).trans HP.out
    have c2 := hq j (by have := HN.out; omega)
    have c3 := hq m (by have := HN.out; omega)
    obtain ⟨g1, g2, g3⟩ := HPB.out
    have g4 := F4.out
    have B8 := Lib.hid (below_step B7.out b8)
    generalize PBr.pt a m j (X : Int) = p at *
    generalize PBr.pt (PBr.ext a m M) m2 j (X : Int) = p1 at *
    generalize PBr.pt (PBr.ext a m M) m2 m (X : Int) = p2 at *
    have hmm : (m : Int) < (m2 : Int) := by have := HN.out; omega
    have jm : (j : Int) < (m2 : Int) := by omega
    have m0 : (0 : Int) ≤ (m : Int) := by omega
    have wp : IntKind.i64.wrap p = p := by rw [IntKind.wrap_i64]; omega
    have pp : (p == p) = true := beq_self_eq_true _
    obtain ⟨D, hD⟩ : ∃ D : Nat, (T : Int) - (T' : Int) = (D : Int) := ⟨T - T', by omega⟩
    have wD : IntKind.i64.wrap (D : Int) = (D : Int) := by rw [IntKind.wrap_i64]; omega
    have D1 : (D : Int) ≤ 1 := by omega
    have D2 : (0 : Int) ≤ (D : Int) := by omega
    have D3 : decide (D ≤ 1) = true := decide_eq_true (by omega)
    clear b8 S7 B7 T4 hs hq g1 g2 g3 HPB F4 HP f1 f2 f3
    go_upto_region 15 with fail
    go_still_tail 29, (by kernel_rfl)
    change wpList _ _ _ _ _ w8.drew
    have B9 := Lib.hid (B8.out.drew)
    clear c1 c2 c3 B8
    generalize w8.drew = w9 at *
    go_wp2_with fail
    refine (awake_any _).mono ?_
    rintro _ w10 ⟨rfl, b10⟩
    have B10 := Lib.hid (below_step B9.out b10)
    clear b10
    go_wp2_with fail
    go_ret
    exact ⟨rfl, B10.out⟩

set_option maxHeartbeats 1600000 in
theorem bsplit_walk (A : Option Addr) (n cap : Nat) (a r : Nat → Int) (u v : Int) (w : World) (hA : SlP w A n a r) (hu : (Lit.int .u64 u).wf = true) (hv : (Lit.int .u64 v).wf = true) :
    Calls Try.prog 8 #[.slice A n cap, .int .u64 u, .int .u64 v] w fun e w' => e = .returned (.bool true) ∧ Below w.heap.size w w' := by
  obtain ⟨u0, u1⟩ := u64_bounds hu
  obtain ⟨v0, v1⟩ := u64_bounds hv
  have hm := hA.2.1
  obtain ⟨X, hX⟩ : ∃ X : Nat, u / 16 = (X : Int) := ⟨(u / 16).toNat, by omega⟩
  obtain ⟨K, hK⟩ : ∃ X : Nat, v / 16 = (X : Int) := ⟨(v / 16).toNat, by omega⟩
  by_cases hn : 11 < n
  · have a1 : (11 : Int) < (n : Int) := by omega
    clear hA hu hv
    go_enter Try.func8, Try.ntmps8
    go_wp2_with fail
    refine (awake_any _).mono ?_
    rintro _ w1 ⟨rfl, b1⟩
    go_wp2_with fail
    go_ret
    exact ⟨rfl, b1⟩
  by_cases hR : PBr.Rt a r n
  · obtain ⟨b, off, rfl, hc⟩ := slp_cells hA hR.1.1
    obtain ⟨j, hj⟩ : ∃ j, n = j + 1 := ⟨n - 1, by have := hR.1.1; omega⟩
    obtain ⟨z, hz⟩ : ∃ z, a j = z := ⟨_, rfl⟩
    obtain ⟨ρ, hρ⟩ : ∃ z, r j = z := ⟨_, rfl⟩
    by_cases hz1 : z ≤ 1152921504606846976
    · exact bsplit_in X K j (n + 1) z ρ (z + 1 + K) u v b off n cap rfl a r w hA hR hj (by omega) hz hρ hz1 rfl hX hK u0 u1 v0 v1
    · have a1 : ¬ (11 : Int) < (n : Int) := by omega
      have e1 : (n : Int) - 1 = (j : Int) := by omega
      have e3 : IntKind.i64.wrap (j : Int) = (j : Int) := by rw [IntKind.wrap_i64]; omega
      have j1 : (0 : Int) ≤ (j : Int) := by omega
      have j2 : (j : Int) < (n : Int) := by omega
      obtain ⟨c0, cr0⟩ := hc j (by omega)
      rw [hz] at c0; rw [hρ] at cr0
      have C0 := Lib.hid (reftable_any (some ⟨b, off, none⟩) n cap a r w hA true ⟨fun _ => hR, fun _ => rfl⟩)
      have z2 : 1152921504606846976 < z := by omega
      clear hA hR hu hv hc hj hz hX hK hz1 hρ
      go_enter Try.func8, Try.ntmps8
      go_wp2_with fail
      refine C0.out.mono ?_
      rintro _ _ ⟨rfl, q, rfl⟩
      have b1 : Below w.heap.size w (w.drewN q) := below_drewN (Below.refl _ _) _
      have B1 := Lib.hid b1
      have c1 := (b1.cell (World.block_lt_of_cell? w _ c0)).trans c0
      have cr1 := (b1.cell (World.block_lt_of_cell? w _ cr0)).trans cr0
      clear b1 C0 c0 cr0
      generalize w.drewN q = w1 at *
      go_wp2_with fail
      refine (awake_any _).mono ?_
      rintro _ w2 ⟨rfl, b2⟩
      have B2 : Hid (Below w.heap.size w w2) := Lib.hid (below_step (B1.out.alloc B1.out.size _) b2)
      clear b2
      go_wp2_with fail
      go_ret
      exact ⟨rfl, B2.out⟩
  · have a1 : ¬ (11 : Int) < (n : Int) := by omega
    have C0 := Lib.hid (reftable_any A n cap a r w hA false ⟨fun h => (by cases h), fun h => absurd h hR⟩)
    clear hA hR hX hK hu hv
    go_enter Try.func8, Try.ntmps8
    go_wp2_with fail
    refine C0.out.mono ?_
    rintro _ _ ⟨rfl, q, rfl⟩
    go_wp2_with fail
    refine (awake_any _).mono ?_
    rintro _ w1 ⟨rfl, b1⟩
    have B1 := Lib.hid (below_step (below_drewN (Below.refl w.heap.size w) q) b1)
    clear b1
    go_wp2_with fail
    go_ret
    exact ⟨rfl, B1.out⟩
end Go.Proofs.Ytdbadgnoognnnaa
