/-
  DatesPeriods: a date's period goes up by twelve with the year; the days of a period from its first to its last one are its length.
-/
import Derived.Test.YtanciheeobgngaaLaw06Awake
import Derived.Test.YtanciheeobgngaaDateMath2
import Derived.Deep.DeepCutAuto
namespace Go.Proofs.Ytanciheeobgngaa
open Go.RowKit

theorem keep333 {w w' : World} {p q r p' q' r' p2 q2 r2 : Addr} {u v x u' v' x' u2 v2 x2 : Value} (hb : Below w.heap.size w w')
    (h : (w.cell? p = some u ∧ w.cell? q = some v ∧ w.cell? r = some x) ∧ (w.cell? p' = some u' ∧ w.cell? q' = some v' ∧ w.cell? r' = some x') ∧ w.cell? p2 = some u2 ∧ w.cell? q2 = some v2 ∧ w.cell? r2 = some x2) :
    (w'.cell? p = some u ∧ w'.cell? q = some v ∧ w'.cell? r = some x) ∧ (w'.cell? p' = some u' ∧ w'.cell? q' = some v' ∧ w'.cell? r' = some x') ∧ w'.cell? p2 = some u2 ∧ w'.cell? q2 = some v2 ∧ w'.cell? r2 = some x2 := ⟨keep3 hb h.1, keep3 hb h.2.1, keep3 hb h.2.2⟩

set_option maxHeartbeats 3200000 in
set_option maxRecDepth 100000 in
theorem dperiods_in (u v t r q k y m d : Int) (w : World) (u0 : 0 ≤ u) (u1 : u ≤ 65535) (v0 : 0 ≤ v) (v1 : v ≤ 255) (t0 : 0 ≤ t) (t1 : t ≤ 255) (hr : u.tmod 1099 = r) (hy : 1900 + r = y) (hq : v % 12 = q) (hm : 1 + q = m) (hk : t % 28 = k) (hd : 1 + k = d) (r0 : 0 ≤ r) (r1 : r ≤ 1098) :
    Calls Try.prog 7 #[.int .u16 u, .int .u8 v, .int .u8 t] w fun e w' => e = .returned (.bool true) ∧ Below w.heap.size w w' := by
  have y0 : 1900 ≤ y := by omega
  have y1 : y ≤ 2998 := by omega
  have m0 : 1 ≤ m := by omega
  have m1 : m ≤ 12 := by omega
  have d0 : 1 ≤ d := by omega
  have d1 : d ≤ 28 := by omega
  have hl := PDate.len_pos y0 (show y ≤ 2999 by omega) m0 m1
  have hl2 := (PDate.len_bounds y m).2
  have o1 := PDate.first_ok y0 (show y ≤ 2999 by omega) m0 m1
  have o2 := PDate.last_ok y0 (show y ≤ 2999 by omega) m0 m1
  have od : PDate.ok y m d := ⟨by omega, by omega⟩
  have on : PDate.ok (y + 1) m d := ⟨by omega, by have := PDate.len_pos (y := y + 1) (by omega) (by omega) m0 m1; omega⟩
  have iy : I64 y := by unfold I64; omega
  have iy' : I64 (y + 1) := by unfold I64; omega
  have im : I64 m := by unfold I64; omega
  have id : I64 d := by unfold I64; omega
  have i1 : I64 1 := by unfold I64; omega
  have il : I64 (PDate.len y m) := by unfold I64; omega
  have CL : Hid (∀ w, Calls Try.prog 14 #[.int .i64 y, .int .i64 m] w fun e w' => e = .returned (.int .i64 (PDate.len y m)) ∧ Below w.heap.size w w') := Lib.hid (fun w => dlen_any iy im)
  have CP : Hid (∀ w, Calls Try.prog 11 #[.agg #[.int .i64 y, .int .i64 m, .int .i64 d]] w fun e w' => e = .returned (.tuple #[.int .i64 (12 * y + m - 1), .bool true]) ∧ Below w.heap.size w w') := Lib.hid (fun w => by
    have := dper_any (w := w) iy im id
    rw [if_pos od, decide_eq_true od] at this; exact this)
  have CQ : Hid (∀ w, Calls Try.prog 11 #[.agg #[.int .i64 (y + 1), .int .i64 m, .int .i64 d]] w fun e w' => e = .returned (.tuple #[.int .i64 (12 * y + m - 1 + 12), .bool true]) ∧ Below w.heap.size w w') := Lib.hid (fun w => by
    have := dper_any (w := w) iy' im id
    rw [if_pos on, decide_eq_true on, show 12 * (y + 1) + m - 1 = 12 * y + m - 1 + 12 by omega] at this; exact this)
  have X1 : Hid (∀ w, Calls Try.prog 20 #[.agg #[.int .i64 y, .int .i64 m, .int .i64 1], .agg #[.int .i64 y, .int .i64 m, .int .i64 (PDate.len y m)], .int .i64 (12 * y + m - 1)] w fun e w' => e = .returned (.int .i64 (PDate.len y m)) ∧ Below w.heap.size w w') := Lib.hid (fun w => by
    have := ddays_any (w := w) (p := 12 * y + m - 1) iy im i1 iy im il (by unfold I64; omega)
    rw [PDate.days_ok o1 o2, PDate.cnt_month y0 (by omega) m0 m1 (by omega) (Int.le_refl _)] at this; exact this)
  have X2 : Hid (∀ w, Calls Try.prog 20 #[.agg #[.int .i64 y, .int .i64 m, .int .i64 1], .agg #[.int .i64 y, .int .i64 m, .int .i64 (PDate.len y m)], .int .i64 (12 * y + m - 1 + 1)] w fun e w' => e = .returned (.int .i64 0) ∧ Below w.heap.size w w') := Lib.hid (fun w => by
    have := ddays_any (w := w) (p := 12 * y + m - 1 + 1) iy im i1 iy im il (by unfold I64; omega)
    rw [PDate.days_ok o1 o2, PDate.cnt_later y0 (by omega) m0 m1] at this; exact this)
  have X3 : Hid (∀ w, Calls Try.prog 20 #[.agg #[.int .i64 y, .int .i64 m, .int .i64 d], .agg #[.int .i64 y, .int .i64 m, .int .i64 d], .int .i64 (12 * y + m - 1)] w fun e w' => e = .returned (.int .i64 1) ∧ Below w.heap.size w w') := Lib.hid (fun w => by
    have := ddays_any (w := w) (p := 12 * y + m - 1) iy im id iy im id (by unfold I64; omega)
    rw [PDate.days_ok od od, PDate.cnt_day y0 (by omega) m0 m1 (by omega) (by omega)] at this; exact this)
  have X4 : Hid (∀ w, Calls Try.prog 20 #[.agg #[.int .i64 y, .int .i64 m, .int .i64 1], .agg #[.int .i64 y, .int .i64 m, .int .i64 d], .int .i64 (12 * y + m - 1)] w fun e w' => e = .returned (.int .i64 d) ∧ Below w.heap.size w w') := Lib.hid (fun w => by
    have := ddays_any (w := w) (p := 12 * y + m - 1) iy im i1 iy im id (by unfold I64; omega)
    rw [PDate.days_ok o1 od, PDate.cnt_month y0 (by omega) m0 m1 (by omega) (by omega)] at this; exact this)
  clear o1 o2 od on iy iy' im id i1 il
  generalize PDate.len y m = l at *
  have P0 : 0 ≤ 12 * y + m - 1 := by omega
  have P1 : 12 * y + m - 1 ≤ 40000 := by omega
  generalize 12 * y + m - 1 = P at *
  have pw : IntKind.i64.wrap (P + 12) = P + 12 := by rw [IntKind.wrap_i64]; omega
  obtain ⟨Q, hQ⟩ : ∃ Q, P + 12 = Q := ⟨_, rfl⟩
  rw [hQ] at pw CQ
  have pp : (Q == Q) = true := beq_self_eq_true _
  have pw1 : IntKind.i64.wrap (P + 1) = P + 1 := by rw [IntKind.wrap_i64]; omega
  have ll : (l == l) = true := beq_self_eq_true _
  have dd : (d == d) = true := beq_self_eq_true _
  go_enter Try.func7, Try.ntmps7
  go_wp2_with fail
  refine (CP.out _).mono ?_
  rintro _ w1 ⟨rfl, b1⟩
  have DA1 := Lib.hid ((D3.new w 23 y m d).on b1)
  have B1 : Hid (Below w.heap.size w w1) := Lib.hid (below_step ((Below.refl w.heap.size w).alloc (Nat.le_refl _) _) b1)
  obtain ⟨c0, c1, c2⟩ := DA1.out.1
  obtain ⟨H, hH⟩ : ∃ H, H = w.heap.size := ⟨_, rfl⟩
  rw [← hH] at c0 c1 c2 DA1 ⊢
  clear b1 CP hH
  go_wp2_with fail
  refine (CQ.out _).mono ?_
  rintro _ w2 ⟨rfl, b2⟩
  have DA2 := Lib.hid ((DA1.out.alloc (.cells #[.int .i64 (y + 1), .int .i64 m, .int .i64 d] 23)).on b2)
  have B2 : Hid (Below w.heap.size w w2) := Lib.hid (below_step (B1.out.alloc B1.out.size _) b2)
  clear b2 CQ B1 DA1 c0 c1 c2
  obtain ⟨c0, c1, c2⟩ := DA2.out.1
  go_wp2_with fail
  refine (CL.out _).mono ?_
  rintro _ w3 ⟨rfl, b3⟩
  have DA3 := Lib.hid (DA2.out.on b3)
  have B3 : Hid (Below w.heap.size w w3) := Lib.hid (below_step B2.out b3)
  clear b3 CL B2 DA2 c0 c1 c2
  obtain ⟨c0, c1, c2⟩ := DA3.out.1
  go_upto_region 7 with fail
  go_cut [14, 15] (fun a b wx => ∃ F G, a = .pointer (some ⟨F, 0, none⟩) ∧ b = .pointer (some ⟨G, 0, none⟩) ∧ D3 wx F y m 1 ∧ D3 wx G y m l ∧ Below w3.heap.size w3 wx)
  case first =>
    go_region_held3 (fun w' => w'.cell? ⟨H, 0, none⟩ = some (.int .i64 y) ∧ w'.cell? ⟨H, 1, none⟩ = some (.int .i64 m) ∧ w'.cell? ⟨H, 2, none⟩ = some (.int .i64 d))
      (first | go_keep) (first | fail)
    · go_wp2_with fail
      go_meet
      have k1 := ((D3.new w3 23 y m 1).alloc (.cells #[.int .i64 y, .int .i64 m, .int .i64 l] 23)).on (Below.refl _ _).drew
      have k2 := (D3.new (w3.alloc (.cells #[.int .i64 y, .int .i64 m, .int .i64 1] 23)) 23 y m l).on (Below.refl _ _).drew
      exact ⟨_, _, rfl, by first | rfl | simp, k1, by simpa using k2, (((Below.refl _ _).alloc (Nat.le_refl _) _).alloc (by simp) _).drew⟩
    · go_wp2_with fail
      go_meet
      have k1 := ((D3.new w3 23 y m l).alloc (.cells #[.int .i64 y, .int .i64 m, .int .i64 1] 23)).on (Below.refl _ _).drew
      have k2 := (D3.new (w3.alloc (.cells #[.int .i64 y, .int .i64 m, .int .i64 l] 23)) 23 y m 1).on (Below.refl _ _).drew
      exact ⟨_, _, by first | rfl | simp, rfl, by simpa using k2, k1, (((Below.refl _ _).alloc (Nat.le_refl _) _).alloc (by simp) _).drew⟩
  case rest =>
    obtain ⟨F, G, rfl, rfl, hF, hG, hb⟩ := hcut
    have DF := Lib.hid hF; have DG := Lib.hid hG; have DH := Lib.hid (DA3.out.on hb)
    have B4 := Lib.hid (below_step B3.out hb)
    obtain ⟨f0, f1, f2⟩ := hF
    obtain ⟨g0, g1, g2⟩ := hG
    clear hb B3 DA3 c0 c1 c2
    obtain ⟨h0, h1, h2⟩ := DH.out.1
    clear DF DG DH
    go_wp2_with fail
    go_region_held3 (fun w' => (w'.cell? ⟨F, 0, none⟩ = some (.int .i64 y) ∧ w'.cell? ⟨F, 1, none⟩ = some (.int .i64 m) ∧ w'.cell? ⟨F, 2, none⟩ = some (.int .i64 1)) ∧ (w'.cell? ⟨G, 0, none⟩ = some (.int .i64 y) ∧ w'.cell? ⟨G, 1, none⟩ = some (.int .i64 m) ∧ w'.cell? ⟨G, 2, none⟩ = some (.int .i64 l)) ∧ w'.cell? ⟨H, 0, none⟩ = some (.int .i64 y) ∧ w'.cell? ⟨H, 1, none⟩ = some (.int .i64 m) ∧ w'.cell? ⟨H, 2, none⟩ = some (.int .i64 d))
      (first
        | go_keep
        | exact keep333 hb9 ‹_›
        | exact keep333 hb8 ‹_›
        | exact keep333 hb7 ‹_›
        | exact keep333 hb6 ‹_›
        | exact keep333 hb5 ‹_›)
      (first
        | (go_at_call 16; refine (awake_any _).mono ?_; rintro _ w9 ⟨rfl, hb9⟩)
        | (go_at_call 20; (with_reducible refine (X1.out _).mono ?_); rintro _ w5 ⟨rfl, hb5⟩)
        | (go_at_call 20; (with_reducible refine (X2.out _).mono ?_); rintro _ w6 ⟨rfl, hb6⟩)
        | (go_at_call 20; (with_reducible refine (X3.out _).mono ?_); rintro _ w7 ⟨rfl, hb7⟩)
        | (go_at_call 20; (with_reducible refine (X4.out _).mono ?_); rintro _ w8 ⟨rfl, hb8⟩))
    all_goals
      have B9 : Hid (Below w.heap.size w w9) := Lib.hid (below_step (below_step (below_step (below_step (below_step B4.out.drew hb5) hb6) hb7) hb8) hb9)
      clear hb5 hb6 hb7 hb8 hb9
      go_wp2_with fail
      go_ret
      exact ⟨rfl, B9.out⟩

theorem dperiods_walk (u v t : Int) (w : World) (hu : (Lit.int .u16 u).wf = true) (hv : (Lit.int .u8 v).wf = true) (ht : (Lit.int .u8 t).wf = true) :
    Calls Try.prog 7 #[.int .u16 u, .int .u8 v, .int .u8 t] w fun e w' => e = .returned (.bool true) ∧ Below w.heap.size w w' := by
  obtain ⟨u0, u1⟩ := u16_bounds hu
  obtain ⟨v0, v1⟩ := u8_bounds hv
  obtain ⟨t0, t1⟩ := u8_bounds ht
  have : u.tmod 1099 = u % 1099 := Int.tmod_eq_emod_of_nonneg u0
  exact dperiods_in u v t _ _ _ _ _ _ w u0 u1 v0 v1 t0 t1 rfl rfl rfl rfl rfl rfl (by omega) (by omega)
end Go.Proofs.Ytanciheeobgngaa
