/-
  DatesBack: dates and their numbers go with one another: of any number there is the date that has it, or none; and the next number's is the day behind.
-/
import Derived.Test.YtanciheeobgngaaLaw06Awake
import Derived.Test.YtanciheeobgngaaRef06Next
namespace Go.Proofs.Ytanciheeobgngaa
open Go.RowKit

theorem keep33 {w w' : World} {p q r p' q' r' : Addr} {u v x u' v' x' : Value} (hb : Below w.heap.size w w') (h : (w.cell? p = some u ∧ w.cell? q = some v ∧ w.cell? r = some x) ∧ w.cell? p' = some u' ∧ w.cell? q' = some v' ∧ w.cell? r' = some x') :
    (w'.cell? p = some u ∧ w'.cell? q = some v ∧ w'.cell? r = some x) ∧ w'.cell? p' = some u' ∧ w'.cell? q' = some v' ∧ w'.cell? r' = some x' := ⟨keep3 hb h.1, keep3 hb h.2⟩
theorem reflast (w : World) : Calls Try.prog 17 #[.agg #[.int .i64 2999, .int .i64 12, .int .i64 31]] w fun e w' => e = .returned (.int .i64 401766) ∧ Below w.heap.size w w' := by
  have := refnum_any 2999 12 31 w PDate.ok_last
  rw [PDate.num_last] at this; exact this

set_option maxHeartbeats 3200000 in
set_option maxRecDepth 100000 in
theorem dback_out (n : Int) (w : World) (h0 : -9223372036854775808 ≤ n) (h1 : n ≤ 9223372036854775807) (h : n < 0 ∨ 401766 < n) :
    Calls Try.prog 4 #[.int .i64 n] w fun e w' => e = .returned (.bool true) ∧ Below w.heap.size w w' := by
  have CO : Hid (∀ w, Calls Try.prog 18 #[.int .i64 n] w fun e w' => e = .returned (.tuple #[.agg #[.int .i64 0, .int .i64 0, .int .i64 0], .bool false]) ∧ Below w.heap.size w w') := Lib.hid (fun w => dof_no ⟨h0, h1⟩ h)
  rcases h with h | h
  all_goals
    go_enter Try.func4, Try.ntmps4
    go_wp2_with fail
    refine (CO.out _).mono ?_
    rintro _ w1 ⟨rfl, b1⟩
    have B1 := Lib.hid b1
    clear b1
    go_wp2_with fail
    refine (reflast _).mono ?_
    rintro _ w2 ⟨rfl, b2⟩
    have DA := Lib.hid ((D3.new w1 23 0 0 0).on b2)
    have B2 : Hid (Below w.heap.size w w2) := Lib.hid (below_step (B1.out.alloc B1.out.size _) b2)
    obtain ⟨c0, c1, c2⟩ := DA.out.1
    clear b2
    go_wp2_with fail
    refine (awake_any _).mono ?_
    rintro _ w3 ⟨rfl, b3⟩
    have B3 := Lib.hid (below_step B2.out b3)
    clear b3
    go_wp2_with fail
    go_ret
    exact ⟨rfl, B3.out⟩

set_option maxHeartbeats 3200000 in
set_option maxRecDepth 100000 in
theorem dback_in (n y m d : Int) (w : World) (ho : PDate.ok y m d) (hn : PDate.num y m d = n) :
    Calls Try.prog 4 #[.int .i64 n] w fun e w' => e = .returned (.bool true) ∧ Below w.heap.size w w' := by
  obtain ⟨n0, n1⟩ := PDate.num_range ho
  rw [hn] at n0 n1
  obtain ⟨⟨y0, y1⟩, ⟨m0, m1⟩, d0, d1⟩ := PDate.ok_in ho
  have CO : Hid (∀ w, Calls Try.prog 18 #[.int .i64 n] w fun e w' => e = .returned (.tuple #[.agg #[.int .i64 y, .int .i64 m, .int .i64 d], .bool true]) ∧ Below w.heap.size w w') := Lib.hid (fun w => by rw [← hn]; exact dof_yes ho)
  have CN : Hid (∀ w, Calls Try.prog 10 #[.agg #[.int .i64 y, .int .i64 m, .int .i64 d]] w fun e w' => e = .returned (.tuple #[.int .i64 n, .bool true]) ∧ Below w.heap.size w w') := Lib.hid (fun w => by
    have := dnum_any (y := y) (m := m) (d := d) (w := w) (by unfold I64; omega) (by unfold I64; omega) (by unfold I64; omega)
    rw [if_pos ho, decide_eq_true ho, hn] at this; exact this)
  have nn : (n != n) = false := bne_self_eq_false _
  by_cases hl : n = 401766
  · subst hl
    have CO2 : Hid (∀ w, Calls Try.prog 18 #[.int .i64 401767] w fun e w' => e = .returned (.tuple #[.agg #[.int .i64 0, .int .i64 0, .int .i64 0], .bool false]) ∧ Below w.heap.size w w') := Lib.hid (fun w => dof_no (by unfold I64; omega) (by omega))
    clear hn ho
    go_enter Try.func4, Try.ntmps4
    go_wp2_with fail
    refine (CO.out _).mono ?_
    rintro _ w1 ⟨rfl, b1⟩
    have B1 := Lib.hid b1
    clear b1
    go_wp2_with fail
    refine (reflast _).mono ?_
    rintro _ w2 ⟨rfl, b2⟩
    have DA := Lib.hid ((D3.new w1 23 y m d).on b2)
    have B2 : Hid (Below w.heap.size w w2) := Lib.hid (below_step (B1.out.alloc B1.out.size _) b2)
    obtain ⟨c0, c1, c2⟩ := DA.out.1
    clear b2
    go_wp2_with fail
    refine (CN.out _).mono ?_
    rintro _ w3 ⟨rfl, b3⟩
    have B3 := Lib.hid (below_step B2.out b3)
    clear b3 c0 c1 c2
    go_wp2_with fail
    refine (CO2.out _).mono ?_
    rintro _ w4 ⟨rfl, b4⟩
    have B4 := Lib.hid (below_step B3.out b4)
    clear b4
    go_wp2_with fail
    refine (awake_any _).mono ?_
    rintro _ w5 ⟨rfl, b5⟩
    have B5 : Hid (Below w.heap.size w w5) := Lib.hid (below_step (B4.out.alloc B4.out.size _) b5)
    clear b5
    go_wp2_with fail
    go_ret
    exact ⟨rfl, B5.out⟩
  · have hl2 : n < 401766 := by omega
    have nl : (n == 401766) = false := by rw [beq_eq_false_iff_ne]; exact hl
    have CO2 : Hid (∀ w, Calls Try.prog 18 #[.int .i64 (n + 1)] w fun e w' => e = .returned (.tuple #[.agg #[.int .i64 (PDate.nxY y m d), .int .i64 (PDate.nxM y m d), .int .i64 (PDate.nxD y m d)], .bool true]) ∧ Below w.heap.size w w') := Lib.hid (fun w => by
      have := dof_yes (w := w) (PDate.nx_ok ho (by omega))
      rw [PDate.nx_num ho, hn] at this; exact this)
    have CX : Hid (∀ w, Calls Try.prog 19 #[.agg #[.int .i64 y, .int .i64 m, .int .i64 d]] w fun e w' => e = .returned (.agg #[.int .i64 (PDate.nxY y m d), .int .i64 (PDate.nxM y m d), .int .i64 (PDate.nxD y m d)]) ∧ Below w.heap.size w w') := Lib.hid (fun w => refnext_any y m d w ho)
    generalize PDate.nxY y m d = Y at *
    generalize PDate.nxM y m d = M at *
    generalize PDate.nxD y m d = D at *
    have YY : (Y == Y) = true := beq_self_eq_true _
    have MM : (M == M) = true := beq_self_eq_true _
    have DD : (D == D) = true := beq_self_eq_true _
    clear hn ho
    go_enter Try.func4, Try.ntmps4
    go_wp2_with fail
    refine (CO.out _).mono ?_
    rintro _ w1 ⟨rfl, b1⟩
    have B1 := Lib.hid b1
    clear b1
    go_wp2_with fail
    refine (reflast _).mono ?_
    rintro _ w2 ⟨rfl, b2⟩
    have DA := Lib.hid ((D3.new w1 23 y m d).on b2)
    have B2 : Hid (Below w.heap.size w w2) := Lib.hid (below_step (B1.out.alloc B1.out.size _) b2)
    obtain ⟨c0, c1, c2⟩ := DA.out.1
    clear b2
    go_wp2_with fail
    refine (CN.out _).mono ?_
    rintro _ w3 ⟨rfl, b3⟩
    have DA3 := Lib.hid (DA.out.on b3)
    have B3 := Lib.hid (below_step B2.out b3)
    clear b3 c0 c1 c2 DA
    go_wp2_with fail
    refine (CO2.out _).mono ?_
    rintro _ w4 ⟨rfl, b4⟩
    have DA4 := Lib.hid ((DA3.out.on b4).alloc (.cells #[.int .i64 Y, .int .i64 M, .int .i64 D] 23))
    have DE4 := Lib.hid (D3.new w4 23 Y M D)
    have B4 : Hid (Below w.heap.size w (w4.alloc (.cells #[.int .i64 Y, .int .i64 M, .int .i64 D] 23))) := Lib.hid (by have := below_step B3.out b4; exact this.alloc this.size _)
    clear b4 DA3 B3
    go_upto_region 11 with fail
    generalize w4.alloc (.cells #[.int .i64 Y, .int .i64 M, .int .i64 D] 23) = w5 at *
    obtain ⟨c0, c1, c2⟩ := DA4.out.1
    obtain ⟨e0, e1, e2⟩ := DE4.out.1
    go_region_held3 (fun w' => (w'.cell? ⟨w1.heap.size, 0, none⟩ = some (.int .i64 y) ∧ w'.cell? ⟨w1.heap.size, 1, none⟩ = some (.int .i64 m) ∧ w'.cell? ⟨w1.heap.size, 2, none⟩ = some (.int .i64 d)) ∧ w'.cell? ⟨w4.heap.size, 0, none⟩ = some (.int .i64 Y) ∧ w'.cell? ⟨w4.heap.size, 1, none⟩ = some (.int .i64 M) ∧ w'.cell? ⟨w4.heap.size, 2, none⟩ = some (.int .i64 D))
      (first
        | go_keep
        | exact keep33 hb8 ‹_›
        | exact keep33 hb7 ‹_›)
      (first
        | (go_at_call 19; refine (CX.out _).mono ?_; rintro _ w7 ⟨rfl, hb7⟩)
        | (go_at_call 16; refine (awake_any _).mono ?_; rintro _ w8 ⟨rfl, hb8⟩))
    all_goals
      have B9 : Hid (Below w.heap.size w w8) := Lib.hid (below_step (below_step B4.out.drew hb7) hb8)
      clear hb7 hb8
      go_wp2_with fail
      go_ret
      exact ⟨rfl, B9.out⟩

theorem dback_walk (n : Int) (w : World) (hn : (Lit.int .i64 n).wf = true) :
    Calls Try.prog 4 #[.int .i64 n] w fun e w' => e = .returned (.bool true) ∧ Below w.heap.size w w' := by
  obtain ⟨h0, h1⟩ := i64_bounds hn
  by_cases h : n < 0 ∨ 401766 < n
  · exact dback_out n w h0 h1 h
  · obtain ⟨y, m, d, ho, hd⟩ := PDate.of_int (n := n) (by omega) (by omega)
    exact dback_in n y m d w ho hd
end Go.Proofs.Ytanciheeobgngaa
