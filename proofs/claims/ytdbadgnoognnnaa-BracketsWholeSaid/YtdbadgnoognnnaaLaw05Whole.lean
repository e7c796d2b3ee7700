/-
  BracketsWhole: parts are the amount together; the tax of more is not less, and never more than that much more.
-/
import Derived.Test.YtdbadgnoognnnaaLaw05Awake
namespace Go.Proofs.Ytdbadgnoognnnaa
open Go.RowKit

set_option maxHeartbeats 3200000 in
set_option maxRecDepth 100000 in
theorem bwhole_in (X Y : Nat) (u v : Int) (A : Option Addr) (n cap : Nat) (a r : Nat → Int) (w : World) (hA : SlP w A n a r) (hR : PBr.Rt a r n) (hu : u / 4 = (X : Int)) (hv : v / 4 = (Y : Int)) (u0 : 0 ≤ u) (u1 : u ≤ 18446744073709551615) (v0 : 0 ≤ v) (v1 : v ≤ 18446744073709551615) :
    Calls Try.prog 4 #[.slice A n cap, .int .u64 u, .int .u64 v] w fun e w' => e = .returned (.bool true) ∧ Below w.heap.size w w' := by
  have hX : X ≤ 4611686018427387903 := by omega
  have hY : Y ≤ 4611686018427387903 := by omega
  obtain ⟨Z, hZ⟩ : ∃ Z : Nat, Z = X + Y := ⟨_, rfl⟩
  have hZi : (X : Int) + (Y : Int) = (Z : Int) := by omega
  have hZ1 : Z ≤ 9223372036854775806 := by omega
  have hn := hR.1.2.1
  have a1 : ¬ (12 : Int) < (n : Int) := by omega
  have HA := Lib.hid hA; have HR := Lib.hid hR
  obtain ⟨m1, m2⟩ := PBr.tax_more (x := (X : Int)) (y := (Z : Int)) hR (by omega) (by omega)
  have t1 := PBr.tax_le (x := (X : Int)) hR (by omega)
  have t2 := PBr.tax_le (x := (Z : Int)) hR (by omega)
  have PA := Lib.hid (PBr.parts_all (x := (X : Int)) hR (by omega))
  have PN : Hid (∀ i, 0 ≤ PBr.pt a n i X) := Lib.hid (fun i => PBr.pt_nonneg hR)
  have C1 : Hid (∀ w, SlP w A n a r → Calls Try.prog 10 #[.slice A n cap, .int .i64 X] w (SplR (PBr.ptL a n X) 0 w)) := Lib.hid (fun w h => parts_ok h HR.out (by omega) (by omega))
  have C2 : Hid (∀ w, SlP w A n a r → Calls Try.prog 11 #[.slice A n cap, .int .i64 X] w fun e w' => e = .returned (.tuple #[.int .i64 (PBr.tax a r n X : Nat), .int .i64 0]) ∧ Below w.heap.size w w') := Lib.hid (fun w h => tax_ok h HR.out (by omega) (by omega))
  have C3 : Hid (∀ w, SlP w A n a r → Calls Try.prog 11 #[.slice A n cap, .int .i64 Z] w fun e w' => e = .returned (.tuple #[.int .i64 (PBr.tax a r n Z : Nat), .int .i64 0]) ∧ Below w.heap.size w w') := Lib.hid (fun w h => tax_ok h HR.out (by omega) (by omega))
  generalize PBr.tax a r n X = p at *
  generalize PBr.tax a r n Z = q at *
  clear hA hR hn hZ
  go_enter Try.func4, Try.ntmps4
  go_wp2_with fail
  refine (C1.out _ HA.out).mono ?_
  rintro _ w1 ⟨B, k, c, rfl, -, -, s1, b1⟩
  obtain rfl : n = k := by have := s1.1; rw [PBr.ptL_len] at this; exact this
  have S1 := Lib.hid s1; have HA1 := Lib.hid (HA.out.on b1); have B1 := Lib.hid b1
  clear s1 b1 HA C1
  go_wp2_with fail
  refine (C2.out _ HA1.out).mono ?_
  rintro _ w2 ⟨rfl, b2⟩
  have S2 := Lib.hid (S1.out.on b2); have HA2 := Lib.hid (HA1.out.on b2); have B2 := Lib.hid (below_step B1.out b2)
  clear b2 HA1 S1 B1 C2
  go_wp2_with fail
  refine (C3.out _ HA2.out).mono ?_
  rintro _ w3 ⟨rfl, b3⟩
  have S3 := Lib.hid (S2.out.on b3); have B3 := Lib.hid (below_step B2.out b3)
  clear b3 HA2 S2 B2 C3
  go_wp2_with fail
  go_loop [15, 71] (fun s i => ∃ (t : Nat), t ≤ n ∧ i = .int .i64 t ∧ s = .int .i64 (PSplit.sumN (PBr.pN a n X) t : Nat)) (fun _ i => n - (intOf i).toNat)
  case atStart => exact ⟨0, Nat.zero_le _, rfl, rfl⟩
  case round =>
    obtain ⟨t, ht, rfl, rfl⟩ := hrel
    by_cases hlt : t < n
    · obtain ⟨b, off, rfl, hc⟩ : ∃ b off, B = some ⟨b, off, none⟩ ∧ ∀ i, i < n → w3.cell? ⟨b, off + i, none⟩ = some (.int .i64 ((PBr.ptL a n X).getD i 0)) := by
        rcases S3.out.2.2.2 with h | h
        · omega
        · exact h
      have c1 := hc t hlt
      rw [PBr.ptL_get hlt] at c1
      have hp := PN.out t
      obtain ⟨y, hy⟩ : ∃ y : Nat, PBr.pt a n t X = (y : Int) := ⟨(PBr.pt a n t X).toNat, by omega⟩
      have HS : Hid (PSplit.sumN (PBr.pN a n X) (t + 1) = PSplit.sumN (PBr.pN a n X) t + y) := Lib.hid (by simp only [PSplit.sumN]; unfold PBr.pN; rw [hy]; simp)
      have hb := PBr.sumN_at (f := PBr.pN a n X) (g := PBr.pN a n X) (fun _ _ => Nat.le_refl _) (show t + 1 ≤ n by omega)
      have hb2 := PA.out
      rw [HS.out] at hb
      rw [hy] at c1
      generalize PSplit.sumN (PBr.pN a n X) t = S at *
      have i1 : (0 : Int) ≤ (t : Int) := by omega
      have i2 : (t : Int) < (n : Int) := by omega
      have s1 : (S : Int) + (y : Int) ≤ 9223372036854775807 := by omega
      clear hc hp hy hb hb2
      go_wp2_with fail
      go_round
      case rel => exact ⟨t + 1, by omega, by congr 1, by rw [HS.out]; congr 1⟩
      case measure => simp [intOf]; omega
    · obtain rfl : t = n := by omega
      have hb : (((PSplit.sumN (PBr.pN a t X) t : Nat) : Int) == (X : Int)) = true := by rw [beq_iff_eq]; exact PA.out
      generalize PSplit.sumN (PBr.pN a t X) t = S at *
      have d1 : decide (p ≤ q) = true := decide_eq_true m1
      have d2 : decide (p ≤ X) = true := decide_eq_true (by omega)
      have d3 : (0 : Int) ≤ (p : Int) := by omega
      have d4 : (q : Int) - (p : Int) ≤ (Z : Int) - (X : Int) := by omega
      have w1' : (q : Int) - (p : Int) ≤ 9223372036854775807 := by omega
      have w2' : 0 ≤ (q : Int) - (p : Int) := by omega
      have w3' : (Z : Int) - (X : Int) ≤ 9223372036854775807 := by omega
      have w4' : 0 ≤ (Z : Int) - (X : Int) := by omega
      have d5 : (p : Int) ≤ (q : Int) := by omega
      have d6 : (p : Int) ≤ (X : Int) := by omega
      go_wp2_with fail
      refine (awake_any _).mono ?_
      rintro _ w4 ⟨rfl, b4⟩
      have B4 := Lib.hid (below_step B3.out b4)
      clear b4
      go_wp2_with fail
      go_ret
      exact ⟨rfl, B4.out⟩

set_option maxHeartbeats 1600000 in
theorem bwhole_walk (A : Option Addr) (n cap : Nat) (a r : Nat → Int) (u v : Int) (w : World) (hA : SlP w A n a r) (hu : (Lit.int .u64 u).wf = true) (hv : (Lit.int .u64 v).wf = true) :
    Calls Try.prog 4 #[.slice A n cap, .int .u64 u, .int .u64 v] w fun e w' => e = .returned (.bool true) ∧ Below w.heap.size w w' := by
  obtain ⟨u0, u1⟩ := u64_bounds hu
  obtain ⟨v0, v1⟩ := u64_bounds hv
  have hm := hA.2.1
  obtain ⟨X, hX⟩ : ∃ X : Nat, u / 4 = (X : Int) := ⟨(u / 4).toNat, by omega⟩
  obtain ⟨Y, hY⟩ : ∃ X : Nat, v / 4 = (X : Int) := ⟨(v / 4).toNat, by omega⟩
  by_cases hn : 12 < n
  · have a1 : (12 : Int) < (n : Int) := by omega
    clear hA hu hv
    go_enter Try.func4, Try.ntmps4
    go_wp2_with fail
    refine (awake_any _).mono ?_
    rintro _ w1 ⟨rfl, b1⟩
    go_wp2_with fail
    go_ret
    exact ⟨rfl, b1⟩
  by_cases hR : PBr.Rt a r n
  · exact bwhole_in X Y u v A n cap a r w hA hR hX hY u0 u1 v0 v1
  · have a1 : ¬ (12 : Int) < (n : Int) := by omega
    obtain ⟨Z, hZ⟩ : ∃ Z : Nat, Z = X + Y := ⟨_, rfl⟩
    have hZi : (X : Int) + (Y : Int) = (Z : Int) := by omega
    have hZ1 : Z ≤ 9223372036854775806 := by omega
    have hX1 : X ≤ 4611686018427387903 := by omega
    have hb : Hid (false = true ↔ PBr.Rt a r n) := Lib.hid ⟨fun h => (by cases h), fun h => absurd h hR⟩
    have HA := Lib.hid hA
    have C1 : Hid (∀ w, SlP w A n a r → Calls Try.prog 10 #[.slice A n cap, .int .i64 X] w (SplR [] 1 w)) := Lib.hid (fun w h => bparts_any (x := (X : Int)) h hb.out (by omega) (by omega))
    have C2 : Hid (∀ w, SlP w A n a r → Calls Try.prog 11 #[.slice A n cap, .int .i64 X] w fun e w' => e = .returned (.tuple #[.int .i64 0, .int .i64 1]) ∧ Below w.heap.size w w') := Lib.hid (fun w h => btax_any (x := (X : Int)) h hb.out (by omega) (by omega))
    have C3 : Hid (∀ w, SlP w A n a r → Calls Try.prog 11 #[.slice A n cap, .int .i64 Z] w fun e w' => e = .returned (.tuple #[.int .i64 0, .int .i64 1]) ∧ Below w.heap.size w w') := Lib.hid (fun w h => btax_any (x := (Z : Int)) h hb.out (by omega) (by omega))
    clear hA hR hn hZ hu hv hb
    go_enter Try.func4, Try.ntmps4
    go_wp2_with fail
    refine (C1.out _ HA.out).mono ?_
    rintro _ w1 ⟨B, k, c, rfl, -, -, -, b1⟩
    have HA1 := Lib.hid (HA.out.on b1); have B1 := Lib.hid b1
    clear b1 HA C1
    go_wp2_with fail
    refine (C2.out _ HA1.out).mono ?_
    rintro _ w2 ⟨rfl, b2⟩
    have HA2 := Lib.hid (HA1.out.on b2); have B2 := Lib.hid (below_step B1.out b2)
    clear b2 HA1 B1 C2
    go_wp2_with fail
    refine (C3.out _ HA2.out).mono ?_
    rintro _ w3 ⟨rfl, b3⟩
    have B3 := Lib.hid (below_step B2.out b3)
    clear b3 HA2 B2 C3
    go_wp2_with fail
    refine (awake_any _).mono ?_
    rintro _ w4 ⟨rfl, b4⟩
    have B4 := Lib.hid (below_step B3.out b4)
    clear b4
    go_wp2_with fail
    go_ret
    exact ⟨rfl, B4.out⟩
end Go.Proofs.Ytdbadgnoognnnaa
