/-
  BracketsFlat: by a table of one row the tax is that part of it; a row more of the same Rate turns it by at most 1.
-/
import Derived.Test.YtdbadgnoognnnaaLaw05Awake
namespace Go.Proofs.Ytdbadgnoognnnaa
open Go.RowKit

theorem below_via {a w w' : World} {o : Obj} (h : Below a.heap.size a w) (b : Below (w.alloc o).heap.size (w.alloc o) w') : Below a.heap.size a w' := below_step (h.alloc h.size _) b

set_option maxHeartbeats 3200000 in
set_option maxRecDepth 100000 in
theorem bflat_in (R X K : Nat) (t u v : Int) (w : World) (ht : t % 10001 = (R : Int)) (hu : u / 4 = (X : Int)) (hv : 1 + v / 4 = (K : Int)) (t0 : 0 ≤ t) (t1 : t ≤ 65535) (u0 : 0 ≤ u) (u1 : u ≤ 18446744073709551615) (v0 : 0 ≤ v) (v1 : v ≤ 18446744073709551615) :
    Calls Try.prog 5 #[.int .u16 t, .int .u64 u, .int .u64 v] w fun e w' => e = .returned (.bool true) ∧ Below w.heap.size w w' := by
  have hR : (R : Int) ≤ 10000 := by omega
  have hX : X ≤ 4611686018427387903 := by omega
  have hK : K ≤ 4611686018427387904 := by omega
  have hK0 : 0 < (K : Int) := by omega
  have L1 : Hid (∀ (w : World) (v : Int), -9223372036854775808 ≤ v → v ≤ 9223372036854775807 → SlP (w.alloc (.cells #[.int .i64 0, .int .i64 v] 34)) (some ⟨w.heap.size, 0, none⟩) 1 (fun _ => 0) (fun _ => v)) := Lib.hid (fun w v h0 h1 => slp_one w _ 0 v (by omega) ⟨h0, h1⟩)
  have L2 : Hid (∀ w : World, SlP (w.alloc (.cells #[.int .i64 0, .int .i64 R, .int .i64 K, .int .i64 R] 34)) (some ⟨w.heap.size, 0, none⟩) 2 (PBr.two K) (fun _ => R)) := Lib.hid (fun w => by
    have := slp_two w 34 0 R K R (by omega) (by omega) (by omega) (by omega)
    have e : (fun i : Nat => if i = 0 then (R : Int) else (R : Int)) = fun _ => (R : Int) := by funext i; split <;> rfl
    rw [e] at this
    exact this)
  have W1 := PBr.rt_one (R := (R : Int)) (by omega) hR
  have W2 := PBr.rt_two (R := (R : Int)) (by omega) hR hK0
  have W3 := PBr.rt_one (R := 10000) (by omega) (by omega)
  obtain ⟨f1, f2⟩ := PBr.tax_two (R := (R : Int)) (x := (X : Int)) (by omega) hR hK0 (by omega)
  have f3 := PBr.tax_le (x := (X : Int)) W1 (by omega)
  have f4 := PBr.tax_le (x := (X : Int)) W2 (by omega)
  have T1 : Hid (∀ A w, SlP w A 1 (fun _ => 0) (fun _ => (R : Int)) → Calls Try.prog 11 #[.slice A 1 1, .int .i64 X] w fun e w' => e = .returned (.tuple #[.int .i64 (PBr.tax (fun _ => 0) (fun _ => (R : Int)) 1 X : Nat), .int .i64 0]) ∧ Below w.heap.size w w') := Lib.hid (fun A w h => tax_ok h W1 (by omega) (by omega))
  have T2 : Hid (∀ A w, SlP w A 2 (PBr.two K) (fun _ => (R : Int)) → Calls Try.prog 11 #[.slice A 2 2, .int .i64 X] w fun e w' => e = .returned (.tuple #[.int .i64 (PBr.tax (PBr.two K) (fun _ => (R : Int)) 2 X : Nat), .int .i64 0]) ∧ Below w.heap.size w w') := Lib.hid (fun A w h => tax_ok h W2 (by omega) (by omega))
  have T3 : Hid (∀ A w, SlP w A 1 (fun _ => 0) (fun _ => (R : Int)) → Calls Try.prog 11 #[.slice A 1 1, .int .i64 (-(X : Int))] w fun e w' => e = .returned (.tuple #[.int .i64 0, .int .i64 0]) ∧ Below w.heap.size w w') := Lib.hid (fun A w h => by
    have := tax_ok (cap := 1) (x := -(X : Int)) h W1 (by omega) (by omega)
    rw [PBr.tax_low W1 (by omega)] at this; exact this)
  have T4 : Hid (∀ A w, SlP w A 1 (fun _ => 0) (fun _ => 10000) → Calls Try.prog 11 #[.slice A 1 1, .int .i64 X] w fun e w' => e = .returned (.tuple #[.int .i64 X, .int .i64 0]) ∧ Below w.heap.size w w') := Lib.hid (fun A w h => by
    have := tax_ok (cap := 1) (x := (X : Int)) h W3 (by omega) (by omega)
    rw [PBr.tax_all W3 (by omega)] at this; exact this)
  generalize PBr.tax (fun _ => 0) (fun _ => (R : Int)) 1 (X : Int) = p at *
  generalize PBr.tax (PBr.two K) (fun _ => (R : Int)) 2 (X : Int) = q at *
  clear W1 W2 W3
  go_enter Try.func5, Try.ntmps5
  go_wp2_with fail
  refine (T1.out _ _ (L1.out w _ (by omega) (by omega))).mono ?_
  rintro _ w1 ⟨rfl, b1⟩
  have B1 := Lib.hid (below_via (Below.refl w.heap.size w) b1)
  clear b1
  go_wp2_with fail
  refine (T2.out _ _ (L2.out w1)).mono ?_
  rintro _ w2 ⟨rfl, b2⟩
  have B2 := Lib.hid (below_via B1.out b2)
  clear b2 B1
  go_wp2_with fail
  refine (T3.out _ _ (L1.out w2 _ (by omega) (by omega))).mono ?_
  rintro _ w3 ⟨rfl, b3⟩
  have B3 := Lib.hid (below_via B2.out b3)
  clear b3 B2
  go_wp2_with fail
  refine (T4.out _ _ (L1.out w3 _ (by omega) (by omega))).mono ?_
  rintro _ w4 ⟨rfl, b4⟩
  have B4 := Lib.hid (below_via B3.out b4)
  clear b4 B3 T1 T2 T3 T4 L1 L2
  have d1 : (q : Int) ≤ (p : Int) := by omega
  have d2 : (p : Int) - (q : Int) ≤ 1 := by omega
  have d3 : decide (q ≤ p) = true := decide_eq_true f1
  have d4 : 0 ≤ (p : Int) - (q : Int) := by omega
  have d5 : ((X : Int) == (X : Int)) = true := beq_self_eq_true _
  go_wp2_with fail
  refine (awake_any _).mono ?_
  rintro _ w5 ⟨rfl, b5⟩
  have B5 := Lib.hid (below_step B4.out b5)
  clear b5
  go_wp2_with fail
  go_ret
  exact ⟨rfl, B5.out⟩

theorem bflat_walk (t u v : Int) (w : World) (ht : (Lit.int .u16 t).wf = true) (hu : (Lit.int .u64 u).wf = true) (hv : (Lit.int .u64 v).wf = true) :
    Calls Try.prog 5 #[.int .u16 t, .int .u64 u, .int .u64 v] w fun e w' => e = .returned (.bool true) ∧ Below w.heap.size w w' := by
  obtain ⟨t0, t1⟩ := u16_bounds ht
  obtain ⟨u0, u1⟩ := u64_bounds hu
  obtain ⟨v0, v1⟩ := u64_bounds hv
  exact bflat_in (t % 10001).toNat (u / 4).toNat (1 + v / 4).toNat t u v w (by omega) (by omega) (by omega) t0 t1 u0 u1 v0 v1
end Go.Proofs.Ytdbadgnoognnnaa
