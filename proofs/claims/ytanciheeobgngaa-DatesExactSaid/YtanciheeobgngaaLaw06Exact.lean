/-
  DatesExact: what any date is, and its number, and its period, is what the document says, or that it is none.
-/
import Derived.Test.YtanciheeobgngaaLaw06Awake
import Derived.Test.YtanciheeobgngaaRef06
import Derived.Deep.DeepCutAuto
namespace Go.Proofs.Ytanciheeobgngaa
open Go.RowKit

set_option maxHeartbeats 3200000 in
set_option maxRecDepth 100000 in
theorem dexact_walk (y m d : Int) (w : World) (hy : I64 y) (hm : I64 m) (hd : I64 d) :
    Calls Try.prog 3 #[reD y m d] w fun e w' => e = .returned (.bool true) ∧ Below w.heap.size w w' := by
  obtain ⟨y0, y1⟩ := hy; obtain ⟨m0, m1⟩ := hm; obtain ⟨d0, d1⟩ := hd
  have CL : Hid (∀ w, Calls Try.prog 14 #[.int .i64 y, .int .i64 m] w fun e w' => e = .returned (.int .i64 (PDate.len y m)) ∧ Below w.heap.size w w') := Lib.hid (fun w => dlen_any ⟨y0, y1⟩ ⟨m0, m1⟩)
  have CLr : Hid (∀ w, Calls Try.prog 15 #[.int .i64 y, .int .i64 m] w fun e w' => e = .returned (.int .i64 (PDate.len y m)) ∧ Below w.heap.size w w') := Lib.hid (fun w => reflen_any y m w)
  have CR : Hid (∀ w, Calls Try.prog 13 #[.agg #[.int .i64 y, .int .i64 m, .int .i64 d]] w fun e w' => e = .returned (.bool (decide (PDate.ok y m d))) ∧ Below w.heap.size w w') := Lib.hid (fun w => dright_any ⟨y0, y1⟩ ⟨m0, m1⟩ ⟨d0, d1⟩)
  have CRr : Hid (∀ w, Calls Try.prog 12 #[.agg #[.int .i64 y, .int .i64 m, .int .i64 d]] w fun e w' => e = .returned (.bool (decide (PDate.ok y m d))) ∧ Below w.heap.size w w') := Lib.hid (fun w => refright_any y m d w)
  have CN : Hid (∀ w, Calls Try.prog 10 #[.agg #[.int .i64 y, .int .i64 m, .int .i64 d]] w fun e w' => e = .returned (.tuple #[.int .i64 (if PDate.ok y m d then PDate.num y m d else 0), .bool (decide (PDate.ok y m d))]) ∧ Below w.heap.size w w') := Lib.hid (fun w => dnum_any ⟨y0, y1⟩ ⟨m0, m1⟩ ⟨d0, d1⟩)
  have CP : Hid (∀ w, Calls Try.prog 11 #[.agg #[.int .i64 y, .int .i64 m, .int .i64 d]] w fun e w' => e = .returned (.tuple #[.int .i64 (if PDate.ok y m d then 12 * y + m - 1 else 0), .bool (decide (PDate.ok y m d))]) ∧ Below w.heap.size w w') := Lib.hid (fun w => dper_any ⟨y0, y1⟩ ⟨m0, m1⟩ ⟨d0, d1⟩)
  have CNr : Hid (PDate.ok y m d → ∀ w, Calls Try.prog 17 #[.agg #[.int .i64 y, .int .i64 m, .int .i64 d]] w fun e w' => e = .returned (.int .i64 (PDate.num y m d)) ∧ Below w.heap.size w w') := Lib.hid (fun h w => refnum_any y m d w h)
  have HI : Hid (PDate.ok y m d → (1900 ≤ y ∧ y ≤ 2999) ∧ (1 ≤ m ∧ m ≤ 12) ∧ 1 ≤ d ∧ d ≤ 31) := Lib.hid PDate.ok_in
  unfold reD
  by_cases ho : PDate.ok y m d
  · obtain ⟨⟨yy0, yy1⟩, ⟨mm0, mm1⟩, dd0, dd1⟩ := HI.out ho
    have CNr' := Lib.hid (CNr.out ho)
    rw [decide_eq_true ho] at CR CRr
    rw [if_pos ho, decide_eq_true ho] at CN CP
    obtain ⟨N, hN⟩ : ∃ N, PDate.num y m d = N := ⟨_, rfl⟩
    rw [hN] at CN CNr'
    obtain ⟨l, hl⟩ : ∃ N, PDate.len y m = N := ⟨_, rfl⟩
    rw [hl] at CL CLr
    have nn : (N == N) = true := beq_self_eq_true _
    have ll : (l != l) = false := bne_self_eq_false _
    clear hN hl CNr HI ho
    go_enter Try.func3, Try.ntmps3
    go_wp2_with fail
    obtain ⟨w1, hw1⟩ : ∃ w1, w1 = (w.alloc (.cells #[.int .i64 y, .int .i64 m, .int .i64 d] 23)).alloc (.cells #[.int .i64 y, .int .i64 m, .int .i64 d] 24) := ⟨_, rfl⟩
    rw [← hw1]
    obtain ⟨H, hH⟩ : ∃ H, H = w.heap.size := ⟨_, rfl⟩
    have DA : Hid (D3 w1 H y m d) := Lib.hid (by rw [hw1, hH]; exact (D3.new _ _ _ _ _).alloc _)
    have DB : Hid (D3 w1 (H + 1) y m d) := Lib.hid (by rw [hw1, hH]; have := D3.new (w.alloc (.cells #[.int .i64 y, .int .i64 m, .int .i64 d] 23)) 24 y m d; simpa using this)
    have B1 : Hid (Below w.heap.size w w1) := Lib.hid (by rw [hw1]; exact ((Below.refl _ _).alloc (Nat.le_refl _) _).alloc (by simp) _)
    rw [← hH]
    clear hw1 hH
    refine (CN.out _).mono ?_
    rintro _ w2 ⟨rfl, b2⟩
    have DA2 := Lib.hid (DA.out.on b2); have DB2 := Lib.hid (DB.out.on b2); have B2 := Lib.hid (below_step B1.out b2)
    obtain ⟨c0, c1, c2⟩ := DA2.out.1
    clear b2 DA DB B1
    go_wp2_with fail
    refine (CP.out _).mono ?_
    rintro _ w3 ⟨rfl, b3⟩
    have DA3 := Lib.hid (DA2.out.on b3); have DB3 := Lib.hid (DB2.out.on b3); have B3 := Lib.hid (below_step B2.out b3)
    obtain ⟨c3, c4, c5⟩ := DB3.out.1
    clear b3 DA2 DB2 B2 c0 c1 c2 CN CP
    go_wp2_with fail
    refine (CRr.out _).mono ?_
    rintro _ w4 ⟨rfl, b4⟩
    have DA4 := Lib.hid (DA3.out.on b4); have DB4 := Lib.hid (DB3.out.on b4); have B4 := Lib.hid (below_step B3.out b4)
    clear b4 DA3 DB3 B3 c3 c4 c5 CRr
    obtain ⟨c0, c1, c2⟩ := DA4.out.1
    go_upto_region 5 with fail
    go_cut [48] (fun t wx => t = .bool false ∧ Below w4.heap.size w4 wx)
    case first =>
      go_region_held3 (fun w' => w'.cell? ⟨H, 0, none⟩ = some (.int .i64 y) ∧ w'.cell? ⟨H, 1, none⟩ = some (.int .i64 m) ∧ w'.cell? ⟨H, 2, none⟩ = some (.int .i64 d))
        (first
          | go_keep
          | exact keep3 hb9 ‹_›
          | exact keep3 hb8 ‹_›
          | exact keep3 hb7 ‹_›)
        (first
          | (go_at_call 13; refine (CR.out _).mono ?_; rintro _ w7 ⟨rfl, hb7⟩)
          | (go_at_call 14; refine (CL.out _).mono ?_; rintro _ w8 ⟨rfl, hb8⟩)
          | (go_at_call 15; refine (CLr.out _).mono ?_; rintro _ w9 ⟨rfl, hb9⟩))
      all_goals
        have B9 : Below w4.heap.size w4 w9 := below_step (below_step (below_step (Below.refl _ _).drew hb7) hb8) hb9
        clear hb7 hb8 hb9
        go_wp2_with fail
        go_meet
        exact ⟨rfl, B9⟩
    case rest =>
      obtain ⟨rfl, bc⟩ := hcut
      have DA5 := Lib.hid (DA4.out.on bc); have DB5 := Lib.hid (DB4.out.on bc); have B5 := Lib.hid (below_step B4.out bc)
      clear bc DA4 DB4 B4 c0 c1 c2
      obtain ⟨c3, c4, c5⟩ := DB5.out.1
      go_wp2_with fail
      refine (CNr'.out _).mono ?_
      rintro _ w6 ⟨rfl, b6⟩
      have DA6 := Lib.hid (DA5.out.on b6); have B6 := Lib.hid (below_step B5.out b6)
      clear b6 DA5 DB5 B5 c3 c4 c5
      obtain ⟨c0, c1, c2⟩ := DA6.out.1
      have pp : (12 * y + m - 1 == 12 * y + m - 1) = true := beq_self_eq_true _
      go_wp2_with fail
      refine (awake_any _).mono ?_
      rintro _ w10 ⟨rfl, b10⟩
      have B10 := Lib.hid (below_step B6.out b10)
      clear b10
      go_wp2_with fail
      go_ret
      exact ⟨rfl, B10.out⟩
  · rw [decide_eq_false ho] at CR CRr
    rw [if_neg ho, decide_eq_false ho] at CN CP
    obtain ⟨l, hl⟩ : ∃ N, PDate.len y m = N := ⟨_, rfl⟩
    rw [hl] at CL CLr
    have ll : (l != l) = false := bne_self_eq_false _
    clear hl CNr HI ho
    go_enter Try.func3, Try.ntmps3
    go_wp2_with fail
    obtain ⟨w1, hw1⟩ : ∃ w1, w1 = (w.alloc (.cells #[.int .i64 y, .int .i64 m, .int .i64 d] 23)).alloc (.cells #[.int .i64 y, .int .i64 m, .int .i64 d] 24) := ⟨_, rfl⟩
    rw [← hw1]
    obtain ⟨H, hH⟩ : ∃ H, H = w.heap.size := ⟨_, rfl⟩
    have DA : Hid (D3 w1 H y m d) := Lib.hid (by rw [hw1, hH]; exact (D3.new _ _ _ _ _).alloc _)
    have DB : Hid (D3 w1 (H + 1) y m d) := Lib.hid (by rw [hw1, hH]; have := D3.new (w.alloc (.cells #[.int .i64 y, .int .i64 m, .int .i64 d] 23)) 24 y m d; simpa using this)
    have B1 : Hid (Below w.heap.size w w1) := Lib.hid (by rw [hw1]; exact ((Below.refl _ _).alloc (Nat.le_refl _) _).alloc (by simp) _)
    rw [← hH]
    clear hw1 hH
    refine (CN.out _).mono ?_
    rintro _ w2 ⟨rfl, b2⟩
    have DA2 := Lib.hid (DA.out.on b2); have DB2 := Lib.hid (DB.out.on b2); have B2 := Lib.hid (below_step B1.out b2)
    obtain ⟨c0, c1, c2⟩ := DA2.out.1
    clear b2 DA DB B1
    go_wp2_with fail
    refine (CP.out _).mono ?_
    rintro _ w3 ⟨rfl, b3⟩
    have DA3 := Lib.hid (DA2.out.on b3); have DB3 := Lib.hid (DB2.out.on b3); have B3 := Lib.hid (below_step B2.out b3)
    obtain ⟨c3, c4, c5⟩ := DB3.out.1
    clear b3 DA2 DB2 B2 c0 c1 c2 CN CP
    go_wp2_with fail
    refine (CRr.out _).mono ?_
    rintro _ w4 ⟨rfl, b4⟩
    have DA4 := Lib.hid (DA3.out.on b4); have DB4 := Lib.hid (DB3.out.on b4); have B4 := Lib.hid (below_step B3.out b4)
    clear b4 DA3 DB3 B3 c3 c4 c5 CRr
    obtain ⟨c0, c1, c2⟩ := DA4.out.1
    go_upto_region 5 with fail
    go_cut [48] (fun t wx => t = .bool false ∧ Below w4.heap.size w4 wx)
    case first =>
      go_region_held3 (fun w' => w'.cell? ⟨H, 0, none⟩ = some (.int .i64 y) ∧ w'.cell? ⟨H, 1, none⟩ = some (.int .i64 m) ∧ w'.cell? ⟨H, 2, none⟩ = some (.int .i64 d))
        (first
          | go_keep
          | exact keep3 hb9 ‹_›
          | exact keep3 hb8 ‹_›
          | exact keep3 hb7 ‹_›)
        (first
          | (go_at_call 13; refine (CR.out _).mono ?_; rintro _ w7 ⟨rfl, hb7⟩)
          | (go_at_call 14; refine (CL.out _).mono ?_; rintro _ w8 ⟨rfl, hb8⟩)
          | (go_at_call 15; refine (CLr.out _).mono ?_; rintro _ w9 ⟨rfl, hb9⟩))
      all_goals
        have B9 : Below w4.heap.size w4 w9 := below_step (below_step (below_step (Below.refl _ _).drew hb7) hb8) hb9
        clear hb7 hb8 hb9
        go_wp2_with fail
        go_meet
        exact ⟨rfl, B9⟩
    case rest =>
      obtain ⟨rfl, bc⟩ := hcut
      have B5 := Lib.hid (below_step B4.out bc)
      clear bc DA4 DB4 B4 c0 c1 c2
      go_wp2_with fail
      refine (awake_any _).mono ?_
      rintro _ w10 ⟨rfl, b10⟩
      have B10 := Lib.hid (below_step B5.out b10)
      clear b10
      go_wp2_with fail
      go_ret
      exact ⟨rfl, B10.out⟩
end Go.Proofs.Ytanciheeobgngaa
