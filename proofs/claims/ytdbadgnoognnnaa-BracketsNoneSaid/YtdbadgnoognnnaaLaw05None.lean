/-
  BracketsNone: a table of noughts takes nothing, one of all takes all, however many rows it has.
-/
import Derived.Test.YtdbadgnoognnnaaLaw05Awake
import Derived.Test.YtdbadgnoognnnaaRef05
import Derived.Test.YtdbadgnoognnnaaPairRows
import Derived.Deep.RegionHeld3
namespace Go.Proofs.Ytdbadgnoognnnaa
open Go.RowKit

theorem slp_cells' {w : World} {A : Option Addr} {n : Nat} {a r : Nat → Int} (h : SlP w A n a r) {i : Nat} (hi : i < n) :
    ∃ b off, A = some ⟨b, off, none⟩ ∧ ∀ i, i < n → w.cell? ⟨b, off + i * 2, none⟩ = some (.int .i64 (a i)) ∧ w.cell? ⟨b, off + i * 2 + 1, none⟩ = some (.int .i64 (r i)) := h.2.2.resolve_left (by omega)

set_option maxHeartbeats 3200000 in
set_option maxRecDepth 100000 in
theorem bnone_in (X : Nat) (u : Int) (A : Option Addr) (n cap : Nat) (a r : Nat → Int) (w : World) (hA : SlP w A n a r) (hR : PBr.Rt a r n) (hu : u / 4 = (X : Int)) (u0 : 0 ≤ u) (u1 : u ≤ 18446744073709551615) :
    Calls Try.prog 6 #[.slice A n cap, .int .u64 u] w fun e w' => e = .returned (.bool true) ∧ Below w.heap.size w w' := by
  have hX : X ≤ 4611686018427387903 := by omega
  have hn := hR.1.2.1
  have a1 : ¬ (12 : Int) < (n : Int) := by omega
  have R0 := hR.rates (R := 0) (by omega) (by omega)
  have R1 := hR.rates (R := 10000) (by omega) (by omega)
  have HA := Lib.hid hA; have HR := Lib.hid hR
  have C0 : Hid (∀ w, SlP w A n a r → Calls Try.prog 13 #[.slice A n cap] w fun e w' => e = .returned (.bool true) ∧ ∃ q, w' = w.drewN q) := Lib.hid (fun w h => reftable_any A n cap a r w h true ⟨fun _ => hR, fun _ => rfl⟩)
  have C1 : Hid (∀ B c w, SlP w B n a (fun _ => 0) → Calls Try.prog 11 #[.slice B n c, .int .i64 X] w fun e w' => e = .returned (.tuple #[.int .i64 0, .int .i64 0]) ∧ Below w.heap.size w w') := Lib.hid (fun B c w h => by
    have := tax_ok (cap := c) (x := (X : Int)) h R0 (by omega) (by omega)
    rw [PBr.tax_none] at this; exact this)
  have C2 : Hid (∀ B c w, SlP w B n a (fun _ => 10000) → Calls Try.prog 11 #[.slice B n c, .int .i64 X] w fun e w' => e = .returned (.tuple #[.int .i64 X, .int .i64 0]) ∧ Below w.heap.size w w') := Lib.hid (fun B c w h => by
    have := tax_ok (cap := c) (x := (X : Int)) h R1 (by omega) (by omega)
    rw [PBr.tax_all hR (by omega)] at this; exact this)
  have C3 : Hid (∀ B c w, SlP w B n a (fun _ => 10000) → Calls Try.prog 12 #[.slice B n c, .int .i64 X] w fun e w' => e = .returned (.tuple #[.int .i64 (if (0 : Int) < (X : Int) then 10000 else 0), .int .i64 0]) ∧ Below w.heap.size w w') := Lib.hid (fun B c w h => by
    have := rate_ok (cap := c) (x := (X : Int)) h R1 (by omega) (by omega)
    rw [PBr.rate_all hR (by omega) hR.1.1 (Nat.le_refl _)] at this; exact this)
  have HBD : Hid (∀ i, i < n → -9223372036854775808 ≤ a i ∧ a i ≤ 9223372036854775807) := Lib.hid (fun i hi => (hA.1 i hi).1)
  clear hA hR R0 R1
  go_enter Try.func6, Try.ntmps6
  go_wp2_with fail
  refine (C0.out _ HA.out).mono ?_
  rintro _ _ ⟨rfl, q, rfl⟩
  have b1 : Below w.heap.size w (w.drewN q) := below_drewN (Below.refl _ _) _
  have HA1 := Lib.hid (HA.out.on b1); have B1 := Lib.hid b1
  clear b1 HA C0
  generalize w.drewN q = w1 at *
  go_wp2_with fail
  have hs1 := B1.out.size
  go_loopw [6, 7, 30] (fun p q i wr => ∃ (k : Nat), k ≤ n ∧ i = .int .i64 k ∧ Hid (wr.ownsRow w1.heap.size 34 2 p k (cellsP a (fun _ => 0) k)) ∧ Hid (wr.ownsRow w1.heap.size 34 2 q k (cellsP a (fun _ => 10000) k)) ∧ Hid (Ap p q) ∧ Hid (Below w1.heap.size w1 wr)) (fun _ _ i _ => n - (intOf i).toNat)
  case atStart => exact ⟨0, Nat.zero_le _, rfl, (show Hid _ from World.ownsRow_nil _ _ _ _), (show Hid _ from World.ownsRow_nil _ _ _ _), (show Hid _ from ap_nil _), (show Hid _ from Below.refl _ _)⟩
  case round =>
    obtain ⟨k, hk, rfl, HP, HQ, AP, HB⟩ := hrel
    have hbs := HB.out.size
    have AT := Lib.hid (HA1.out.on HB.out)
    by_cases hlt : k < n
    · obtain ⟨b, off, rfl, hc⟩ := slp_cells' AT.out hlt
      obtain ⟨c1, c2⟩ := hc k hlt
      obtain ⟨x, hx⟩ : ∃ x, a k = x := ⟨_, rfl⟩
      obtain ⟨y, hy⟩ : ∃ x, r k = x := ⟨_, rfl⟩
      rw [hx] at c1; rw [hy] at c2
      have HX := Lib.hid hx
      clear hc hx hy
      have i1 : (0 : Int) ≤ (k : Int) := by omega
      have i2 : (k : Int) < (n : Int) := by omega
      go_upto_region 8 with fail
      have P1 := Lib.hid (HP.out.alloc (.cells #[.int .i64 x, .int .i64 y] 34))
      have Q1 := Lib.hid (HQ.out.alloc (.cells #[.int .i64 x, .int .i64 y] 34))
      have bx : (wr.alloc (.cells #[.int .i64 x, .int .i64 y] 34)).cell? ⟨wr.heap.size, 0, none⟩ = some (.int .i64 x) := by go_simp
      have B2 := Lib.hid (HB.out.alloc hbs (.cells #[.int .i64 x, .int .i64 y] 34))
      have hpb : Hid (∀ h, wr.heap.size ≤ h → u6.ownBlock ≠ some h) := Lib.hid (fun h hh e => by have := (HP.out.lt _ e).2; omega)
      have hqb : Hid (∀ h, wr.heap.size ≤ h → u7.ownBlock ≠ some h) := Lib.hid (fun h hh e => by have := (HQ.out.lt _ e).2; omega)
      have hsw : (wr.alloc (.cells #[.int .i64 x, .int .i64 y] 34)).heap.size = wr.heap.size + 1 := by simp
      generalize wr.alloc (.cells #[.int .i64 x, .int .i64 y] 34) = wb at *
      have hsb := B2.out.size
      clear c1 c2 HP HQ HB
      go_region_held3 (fun w' => w'.cell? ⟨wr.heap.size, 0, none⟩ = some (.int .i64 x))
        (first
          | go_keep
          | exact hc4 _ _ (by first | exact hc3 _ _ (by first | exact bx | (go_simp; done)) (hpb.out _ (Nat.le_refl _)) | (rw [World.cell?_alloc_lt _ _ _ (by have := hb3.size; simp at this ⊢; omega)]; exact hc3 _ _ (by first | exact bx | (go_simp; done)) (hpb.out _ (Nat.le_refl _)))) (hqb.out _ (Nat.le_refl _))
          | exact hc3 _ _ (by first | exact bx | (go_simp; done)) (hpb.out _ (Nat.le_refl _)))
        (first
          | ((refine step_append_pair _ (by rfl) _ _ (by rfl) w1.heap.size u6 k _ x 0 (by rfl) (by first | exact P1.out | exact P1.out.alloc _ | exact (P1.out.alloc _).alloc _) _ (by rfl) (by go_simp) (by go_simp) (by omega) (by first | exact hsb | (simp; omega)) ?_; intro p' w3 hp3 hb3 hk3 hc3))
          | ((refine step_append_pair _ (by rfl) _ _ (by rfl) w1.heap.size u7 k _ x 10000 (by rfl) (by first | exact (hk3 _ _ _ (by first | exact Q1.out | exact Q1.out.alloc _ | exact (Q1.out.alloc _).alloc _) AP.out.symm).1 | exact ((hk3 _ _ _ (by first | exact Q1.out | exact Q1.out.alloc _ | exact (Q1.out.alloc _).alloc _) AP.out.symm).1).alloc _) _ (by rfl) (by first | (go_simp; done) | exact hc3 _ _ (by go_simp) (hpb.out _ (by first | (simp; done) | (simp; omega)))) (by first | (go_simp; done) | exact hc3 _ _ (by go_simp) (hpb.out _ (by first | (simp; done) | (simp; omega)))) (by omega) (by have := hb3.size; simp at this ⊢; omega) ?_; intro q' w4 hq4 hb4 hk4 hc4)))
      all_goals
        have aq3 := (hk3 _ _ _ (by first | exact Q1.out | exact Q1.out.alloc _ | exact (Q1.out.alloc _).alloc _) AP.out.symm).2
        obtain ⟨hp4, ap4⟩ := hk4 _ _ _ (by first | exact hp3 | exact hp3.alloc _) aq3.symm
        rw [← HX.out] at hq4 hp4
        rw [show ([Value.int .i64 (a k), Value.int .i64 10000] : List Value) = [.int .i64 (a k), .int .i64 ((fun _ => 10000) k)] from rfl, ← cellsP_next] at hq4
        rw [show ([Value.int .i64 (a k), Value.int .i64 0] : List Value) = [.int .i64 (a k), .int .i64 ((fun _ => 0) k)] from rfl, ← cellsP_next] at hp4
        have P4 := Lib.hid hp4; have Q4 := Lib.hid hq4; have A4 := Lib.hid ap4
        have B3 : Hid (Below w1.heap.size w1 w3) := Lib.hid (by
          refine Below.trans ?_ hb3
          repeat' (first | exact B2.out | exact hsb | apply Below.drew | (refine Below.alloc ?_ ?_ _) | (simp; omega)))
        have hs3 := B3.out.size
        have B4 : Hid (Below w1.heap.size w1 w4) := Lib.hid (by
          refine Below.trans ?_ hb4
          repeat' (first | exact B3.out | exact hs3 | apply Below.drew | (refine Below.alloc ?_ ?_ _) | (simp; omega)))
        clear hq4 hp4 ap4 hk4 hc4 hb4 hk3 hc3 hb3 hp3 aq3
        go_wp2_with fail
        go_roundw
        case rel => exact ⟨k + 1, by omega, by congr 1, P4, Q4, A4, B4⟩
        case measure => simp [intOf]; omega
    · obtain rfl : k = n := by omega
      obtain ⟨A1, c1, rfl, -, -, s1⟩ := slp_of_own HP.out (fun i hi => ⟨HBD.out i hi, by omega⟩) (by omega)
      obtain ⟨A2, c2, rfl, -, -, s2⟩ := slp_of_own HQ.out (fun i hi => ⟨HBD.out i hi, by omega⟩) (by omega)
      have S1 := Lib.hid s1; have S2 := Lib.hid s2
      have B2 := Lib.hid (below_step B1.out HB.out)
      clear s1 s2 HP HQ AP HB AT
      go_wp2_with fail
      refine (C1.out _ _ _ S1.out).mono ?_
      rintro _ w3 ⟨rfl, b3⟩
      have S3 := Lib.hid (S2.out.on b3); have B3 := Lib.hid (below_step B2.out b3)
      clear b3 S1 S2 B2 C1
      go_wp2_with fail
      refine (C2.out _ _ _ S3.out).mono ?_
      rintro _ w4 ⟨rfl, b4⟩
      have S4 := Lib.hid (S3.out.on b4); have B4 := Lib.hid (below_step B3.out b4)
      clear b4 S3 B3 C2
      go_wp2_with fail
      refine (C3.out _ _ _ S4.out).mono ?_
      rintro _ w5 ⟨rfl, b5⟩
      have B5 := Lib.hid (below_step B4.out b5)
      clear b5 S4 B4 C3
      have xx : ((X : Int) == (X : Int)) = true := beq_self_eq_true _
      by_cases h0 : (0 : Int) < (X : Int)
      · rw [if_pos h0]
        have d0 : decide (0 < X) = true := decide_eq_true (by omega)
        go_wp2_with fail
        refine (awake_any _).mono ?_
        rintro _ w6 ⟨rfl, b6⟩
        have B6 := Lib.hid (below_step B5.out b6)
        clear b6
        go_wp2_with fail
        go_ret
        exact ⟨rfl, B6.out⟩
      · rw [if_neg h0]
        have d0 : decide (0 < X) = false := decide_eq_false (by omega)
        go_wp2_with fail
        refine (awake_any _).mono ?_
        rintro _ w6 ⟨rfl, b6⟩
        have B6 := Lib.hid (below_step B5.out b6)
        clear b6
        go_wp2_with fail
        go_ret
        exact ⟨rfl, B6.out⟩

theorem bnone_walk (A : Option Addr) (n cap : Nat) (a r : Nat → Int) (u : Int) (w : World) (hA : SlP w A n a r) (hu : (Lit.int .u64 u).wf = true) :
    Calls Try.prog 6 #[.slice A n cap, .int .u64 u] w fun e w' => e = .returned (.bool true) ∧ Below w.heap.size w w' := by
  obtain ⟨u0, u1⟩ := u64_bounds hu
  have hm := hA.2.1
  by_cases hR : PBr.Rt a r n
  · exact bnone_in (u / 4).toNat u A n cap a r w hA hR (by omega) u0 u1
  by_cases hn : 12 < n
  · have a1 : (12 : Int) < (n : Int) := by omega
    clear hA
    go_enter Try.func6, Try.ntmps6
    go_wp2_with fail
    refine (awake_any _).mono ?_
    rintro _ w1 ⟨rfl, b1⟩
    go_wp2_with fail
    go_ret
    exact ⟨rfl, b1⟩
  · have a1 : ¬ (12 : Int) < (n : Int) := by omega
    have C0 := Lib.hid (reftable_any A n cap a r w hA false ⟨fun h => (by cases h), fun h => absurd h hR⟩)
    clear hA hR
    go_enter Try.func6, Try.ntmps6
    go_wp2_with fail
    refine C0.out.mono ?_
    rintro _ _ ⟨rfl, q, rfl⟩
    go_wp2_with fail
    refine (awake_any _).mono ?_
    rintro _ w1 ⟨rfl, b1⟩
    have B1 := Lib.hid (below_step (below_drewN (Below.refl w.heap.size w) q) b1)
    clear b1
    go_wp2_with fail
    go_ret
    exact ⟨rfl, B1.out⟩
end Go.Proofs.Ytdbadgnoognnnaa
