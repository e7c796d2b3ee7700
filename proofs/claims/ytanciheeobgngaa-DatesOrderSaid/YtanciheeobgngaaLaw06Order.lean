/-
  DatesOrder: of two dates the one with the greater number is later, by year, month and day.
-/
import Derived.Test.YtanciheeobgngaaLaw06Awake
import Derived.Deep.DeepCutAuto
namespace Go.Proofs.Ytanciheeobgngaa
open Go.RowKit

theorem key_lt {y m d y' m' d' : Int} (h : PDate.ok y m d) (h' : PDate.ok y' m' d') : PDate.num y m d < PDate.num y' m' d' ↔ 10000 * y + 100 * m + d < 10000 * y' + 100 * m' + d' := by
  rw [PDate.num_lt h h']
  have h1 := PDate.ok_in h; have h2 := PDate.ok_in h'
  omega
theorem key_eq {y m d y' m' d' : Int} (h : PDate.ok y m d) (h' : PDate.ok y' m' d') : PDate.num y m d = PDate.num y' m' d' ↔ 10000 * y + 100 * m + d = 10000 * y' + 100 * m' + d' := by
  have h1 := key_lt h h'; have h2 := key_lt h' h
  omega

set_option maxHeartbeats 3200000 in
set_option maxRecDepth 100000 in
theorem dorder_in (a b M N : Int) (y m d y' m' d' : Int) (w : World) (ha : a % 262144 = M) (hb : b % 262144 = N) (a0 : 0 ≤ a) (a1 : a ≤ 4294967295) (b0 : 0 ≤ b) (b1 : b ≤ 4294967295) (ho : PDate.ok y m d) (hn : PDate.num y m d = M) (ho' : PDate.ok y' m' d') (hn' : PDate.num y' m' d' = N) :
    Calls Try.prog 8 #[.int .u32 a, .int .u32 b] w fun e w' => e = .returned (.bool true) ∧ Below w.heap.size w w' := by
  obtain ⟨⟨y0, y1⟩, ⟨m0, m1⟩, d0, d1⟩ := PDate.ok_in ho
  obtain ⟨⟨y0', y1'⟩, ⟨m0', m1'⟩, d0', d1'⟩ := PDate.ok_in ho'
  have k1 := key_lt ho ho'; have k2 := key_eq ho ho'
  rw [hn, hn'] at k1 k2
  have CO : Hid (∀ w, Calls Try.prog 18 #[.int .i64 M] w fun e w' => e = .returned (.tuple #[.agg #[.int .i64 y, .int .i64 m, .int .i64 d], .bool true]) ∧ Below w.heap.size w w') := Lib.hid (fun w => by rw [← hn]; exact dof_yes ho)
  have CO2 : Hid (∀ w, Calls Try.prog 18 #[.int .i64 N] w fun e w' => e = .returned (.tuple #[.agg #[.int .i64 y', .int .i64 m', .int .i64 d'], .bool true]) ∧ Below w.heap.size w w') := Lib.hid (fun w => by rw [← hn']; exact dof_yes ho')
  have M0 : 0 ≤ M := by omega
  have N0 : 0 ≤ N := by omega
  have M1 : M < 262144 := by omega
  have N1 : N < 262144 := by omega
  have q1 : decide (M < N) = decide (10000 * y + 100 * m + d < 10000 * y' + 100 * m' + d') := by simp only [decide_eq_decide]; exact k1
  have q2 : (M == N) = (10000 * y + 100 * m + d == 10000 * y' + 100 * m' + d') := by rw [Bool.eq_iff_iff, beq_iff_eq, beq_iff_eq]; exact k2
  have HK : Hid ((M < N ∧ 10000 * y + 100 * m + d < 10000 * y' + 100 * m' + d') ∨ (M = N ∧ 10000 * y + 100 * m + d = 10000 * y' + 100 * m' + d') ∨ (N < M ∧ 10000 * y' + 100 * m' + d' < 10000 * y + 100 * m + d)) := Lib.hid (by omega)
  clear hn hn' ho ho' k1 k2 q1 q2
  go_enter Try.func8, Try.ntmps8
  go_wp2_with fail
  refine (CO.out _).mono ?_
  rintro _ w1 ⟨rfl, b1⟩
  have B1 := Lib.hid b1
  clear b1
  go_wp2_with fail
  refine (CO2.out _).mono ?_
  rintro _ w2 ⟨rfl, b2⟩
  have DA := Lib.hid (((D3.new w1 23 y m d).on b2).alloc (.cells #[.int .i64 y', .int .i64 m', .int .i64 d'] 23))
  have DE := Lib.hid (D3.new w2 23 y' m' d')
  have B2 : Hid (Below w.heap.size w (w2.alloc (.cells #[.int .i64 y', .int .i64 m', .int .i64 d'] 23))) := Lib.hid (by
    have := below_step (B1.out.alloc B1.out.size _) b2
    exact this.alloc this.size _)
  clear b2
  go_upto_region 4 with fail
  generalize w2.alloc (.cells #[.int .i64 y', .int .i64 m', .int .i64 d'] 23) = w5 at *
  obtain ⟨c0, c1, c2⟩ := DA.out.1
  obtain ⟨e0, e1, e2⟩ := DE.out.1
  go_big_quiet (fail)
  have B3 := Lib.hid (below_drewN' B2.out nq)
  clear c0 c1 c2 e0 e1 e2 DA DE
  generalize w5.drewN nq = w6 at *
  generalize hP : 10000 * y + 100 * m + d = P at *
  generalize hQ : 10000 * y' + 100 * m' + d' = Q at *
  have HK2 := HK.out
  clear HK hP hQ
  rcases HK2 with ⟨k1, k2⟩ | ⟨rfl, rfl⟩ | ⟨k1, k2⟩
  · have g1 : decide (M < N) = true := decide_eq_true k1
    have g2 : decide (P < Q) = true := decide_eq_true k2
    have g3 : (M == N) = false := by rw [beq_eq_false_iff_ne]; omega
    have g4 : (P == Q) = false := by rw [beq_eq_false_iff_ne]; omega
    go_wp2_with fail
    refine (awake_any _).mono ?_
    rintro _ w7 ⟨rfl, b7⟩
    have B7 := Lib.hid (below_step B3.out b7)
    clear b7
    go_wp2_with fail
    go_ret
    exact ⟨rfl, B7.out⟩
  · have g1 : decide (M < M) = false := decide_eq_false (by omega)
    have g2 : decide (P < P) = false := decide_eq_false (by omega)
    have g3 : (M == M) = true := beq_self_eq_true _
    have g4 : (P == P) = true := beq_self_eq_true _
    go_wp2_with fail
    refine (awake_any _).mono ?_
    rintro _ w7 ⟨rfl, b7⟩
    have B7 := Lib.hid (below_step B3.out b7)
    clear b7
    go_wp2_with fail
    go_ret
    exact ⟨rfl, B7.out⟩
  · have g1 : decide (M < N) = false := decide_eq_false (by omega)
    have g2 : decide (P < Q) = false := decide_eq_false (by omega)
    have g3 : (M == N) = false := by rw [beq_eq_false_iff_ne]; omega
    have g4 : (P == Q) = false := by rw [beq_eq_false_iff_ne]; omega
    go_wp2_with fail
    refine (awake_any _).mono ?_
    rintro _ w7 ⟨rfl, b7⟩
    have B7 := Lib.hid (below_step B3.out b7)
    clear b7
    go_wp2_with fail
    go_ret
    exact ⟨rfl, B7.out⟩

theorem dorder_walk (a b : Int) (w : World) (ha : (Lit.int .u32 a).wf = true) (hb : (Lit.int .u32 b).wf = true) :
    Calls Try.prog 8 #[.int .u32 a, .int .u32 b] w fun e w' => e = .returned (.bool true) ∧ Below w.heap.size w w' := by
  obtain ⟨a0, a1⟩ := u32_bounds ha
  obtain ⟨b0, b1⟩ := u32_bounds hb
  obtain ⟨y, m, d, ho, hn⟩ := PDate.of_int (n := a % 262144) (by omega) (by omega)
  obtain ⟨y', m', d', ho', hn'⟩ := PDate.of_int (n := b % 262144) (by omega) (by omega)
  exact dorder_in a b _ _ y m d y' m' d' w rfl rfl a0 a1 b0 b1 ho hn ho' hn'
end Go.Proofs.Ytanciheeobgngaa
