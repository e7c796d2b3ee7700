/-
  DatesDays: of a period, from a date to another one, there are as many days as the document says, one by one.
-/
import Derived.Test.YtanciheeobgngaaLaw06Awake
import Derived.Test.YtanciheeobgngaaDateMath2
import Derived.Test.YtanciheeobgngaaRef06Next
namespace Go.Proofs.Ytanciheeobgngaa
open Go.RowKit

/-- What is counted of the first k days. -/
def cntTo (n p k : Int) : Int := if k = 0 then 0 else PDate.cnt n (n + k - 1) p
theorem cntTo_zero (n p : Int) : cntTo n p 0 = 0 := rfl
theorem cntTo_next {n p k : Int} (h : 0 ≤ k) : cntTo n p (k + 1) = cntTo n p k + if PDate.lo p ≤ n + k ∧ n + k ≤ PDate.hi p then 1 else 0 := by
  unfold cntTo
  rw [if_neg (by omega), show n + (k + 1) - 1 = n + k by omega]
  by_cases e : k = 0
  · subst e; rw [if_pos rfl, Int.add_zero, PDate.cnt_one, Int.zero_add]
  · rw [if_neg e]
    have := PDate.cnt_next (a := n) (b := n + k - 1) (p := p) (by omega)
    rwa [show n + k - 1 + 1 = n + k by omega] at this
theorem cntTo_bound {n p k : Int} (h : 0 ≤ k) : 0 ≤ cntTo n p k ∧ cntTo n p k ≤ k := by
  unfold cntTo PDate.cnt; split <;> omega

set_option maxHeartbeats 1600000 in
theorem ddays_none (y m d p t : Int) (w : World) (ho : ¬ PDate.ok y m d) (hy : I64 y) (hm : I64 m) (hd : I64 d) (hp : I64 p) :
    Calls Try.prog 5 #[reD y m d, .int .u16 t, .int .i64 p] w fun e w' => e = .returned (.bool true) ∧ Below w.heap.size w w' := by
  have CR : Hid (∀ w, Calls Try.prog 12 #[.agg #[.int .i64 y, .int .i64 m, .int .i64 d]] w fun e w' => e = .returned (.bool false) ∧ Below w.heap.size w w') := Lib.hid (fun w => by
    have := refright_any y m d w
    rw [decide_eq_false ho] at this; exact this)
  have CD : Hid (∀ w, Calls Try.prog 20 #[.agg #[.int .i64 y, .int .i64 m, .int .i64 d], .agg #[.int .i64 y, .int .i64 m, .int .i64 d], .int .i64 p] w fun e w' => e = .returned (.int .i64 0) ∧ Below w.heap.size w w') := Lib.hid (fun w => by
    have := ddays_any (w := w) hy hm hd hy hm hd hp
    rw [show PDate.days y m d y m d p = 0 from if_neg (fun h => ho h.1)] at this; exact this)
  unfold reD
  clear ho hy hm hd hp
  go_enter Try.func5, Try.ntmps5
  go_wp2_with fail
  obtain ⟨w1, hw1⟩ : ∃ w1, w1 = (w.alloc (.cells #[.int .i64 y, .int .i64 m, .int .i64 d] 23)).alloc (.cells #[.int .i64 y, .int .i64 m, .int .i64 d] 24) := ⟨_, rfl⟩
  rw [← hw1]
  obtain ⟨H, hH⟩ : ∃ H, H = w.heap.size := ⟨_, rfl⟩
  have DA : Hid (D3 w1 H y m d) := Lib.hid (by rw [hw1, hH]; exact (D3.new _ _ _ _ _).alloc _)
  have DB : Hid (D3 w1 (H + 1) y m d) := Lib.hid (by rw [hw1, hH]; have := D3.new (w.alloc (.cells #[.int .i64 y, .int .i64 m, .int .i64 d] 23)) 24 y m d; simpa using this)
  have B1 : Hid (Below w.heap.size w w1) := Lib.hid (by rw [hw1]; exact ((Below.refl _ _).alloc (Nat.le_refl _) _).alloc (by simp) _)
  rw [← hH]
  clear hw1 hH
  refine (CR.out _).mono ?_
  rintro _ w2 ⟨rfl, b2⟩
  have DA2 := Lib.hid (DA.out.on b2); have DB2 := Lib.hid (DB.out.on b2); have B2 := Lib.hid (below_step B1.out b2)
  obtain ⟨e0, e1, e2⟩ := DB2.out.1
  obtain ⟨c0, c1, c2⟩ := DA2.out.1
  clear b2 DA DB B1
  go_wp2_with fail
  refine (CR.out _).mono ?_
  rintro _ w3 ⟨rfl, b3⟩
  have DA3 := Lib.hid (DA2.out.on b3); have B3 := Lib.hid (below_step B2.out b3)
  clear b3 e0 e1 e2 c0 c1 c2 DA2 DB2 B2
  obtain ⟨c0, c1, c2⟩ := DA3.out.1
  go_wp2_with fail
  refine (CD.out _).mono ?_
  rintro _ w4 ⟨rfl, b4⟩
  have B4 := Lib.hid (below_step B3.out b4)
  clear b4 c0 c1 c2
  go_wp2_with fail
  refine (awake_any _).mono ?_
  rintro _ w5 ⟨rfl, b5⟩
  have B5 := Lib.hid (below_step B4.out b5)
  clear b5
  go_wp2_with fail
  go_ret
  exact ⟨rfl, B5.out⟩

set_option maxHeartbeats 1600000 in
theorem ddays_late (y m d p t : Int) (w : World) (ho : PDate.ok y m d) (hl : 2990 < y) :
    Calls Try.prog 5 #[reD y m d, .int .u16 t, .int .i64 p] w fun e w' => e = .returned (.bool true) ∧ Below w.heap.size w w' := by
  have CR : Hid (∀ w, Calls Try.prog 12 #[.agg #[.int .i64 y, .int .i64 m, .int .i64 d]] w fun e w' => e = .returned (.bool true) ∧ Below w.heap.size w w') := Lib.hid (fun w => by
    have := refright_any y m d w
    rw [decide_eq_true ho] at this; exact this)
  unfold reD
  clear ho
  go_enter Try.func5, Try.ntmps5
  go_wp2_with fail
  obtain ⟨w1, hw1⟩ : ∃ w1, w1 = (w.alloc (.cells #[.int .i64 y, .int .i64 m, .int .i64 d] 23)).alloc (.cells #[.int .i64 y, .int .i64 m, .int .i64 d] 24) := ⟨_, rfl⟩
  rw [← hw1]
  obtain ⟨H, hH⟩ : ∃ H, H = w.heap.size := ⟨_, rfl⟩
  have DA : Hid (D3 w1 H y m d) := Lib.hid (by rw [hw1, hH]; exact (D3.new _ _ _ _ _).alloc _)
  have DB : Hid (D3 w1 (H + 1) y m d) := Lib.hid (by rw [hw1, hH]; have := D3.new (w.alloc (.cells #[.int .i64 y, .int .i64 m, .int .i64 d] 23)) 24 y m d; simpa using this)
  have B1 : Hid (Below w.heap.size w w1) := Lib.hid (by rw [hw1]; exact ((Below.refl _ _).alloc (Nat.le_refl _) _).alloc (by simp) _)
  rw [← hH]
  clear hw1 hH
  refine (CR.out _).mono ?_
  rintro _ w2 ⟨rfl, b2⟩
  have DA2 := Lib.hid (DA.out.on b2); have DB2 := Lib.hid (DB.out.on b2); have B2 := Lib.hid (below_step B1.out b2)
  obtain ⟨e0, e1, e2⟩ := DB2.out.1
  obtain ⟨c0, c1, c2⟩ := DA2.out.1
  clear b2 DA DB B1
  go_wp2_with fail
  refine (CR.out _).mono ?_
  rintro _ w3 ⟨rfl, b3⟩
  have B3 := Lib.hid (below_step B2.out b3)
  clear b3 e0 e1 e2 c0 c1 c2 DA2 DB2 B2
  go_wp2_with fail
  refine (awake_any _).mono ?_
  rintro _ w5 ⟨rfl, b5⟩
  have B5 := Lib.hid (below_step B3.out b5)
  clear b5
  go_wp2_with fail
  go_ret
  exact ⟨rfl, B5.out⟩

set_option maxHeartbeats 3200000 in
set_option maxRecDepth 100000 in
theorem ddays_in (y m d p t K : Int) (w : World) (ho : PDate.ok y m d) (hl : y ≤ 2990) (hp0 : -9223372036854775808 ≤ p) (hp1 : p ≤ 9223372036854775807) (ht : t % 800 = K) (t0 : 0 ≤ t) (t1 : t ≤ 65535) :
    Calls Try.prog 5 #[reD y m d, .int .u16 t, .int .i64 p] w fun e w' => e = .returned (.bool true) ∧ Below w.heap.size w w' := by
  have CR : Hid (∀ w, Calls Try.prog 12 #[.agg #[.int .i64 y, .int .i64 m, .int .i64 d]] w fun e w' => e = .returned (.bool true) ∧ Below w.heap.size w w') := Lib.hid (fun w => by
    have := refright_any y m d w
    rw [decide_eq_true ho] at this; exact this)
  have HO := Lib.hid ho
  have K0 : 0 ≤ K := by omega
  have K1 : K ≤ 799 := by omega
  obtain ⟨N, hN⟩ : ∃ N, PDate.num y m d = N := ⟨_, rfl⟩
  obtain ⟨N0, -⟩ := PDate.num_range ho
  have N1 : N ≤ 398479 := by
    have h1 := (PDate.num_year ho).2
    have h2 := PDate.ya_mono (show y + 1 ≤ 2991 by omega)
    rw [show PDate.ya 2991 = 398480 from rfl] at h2
    omega
  rw [hN] at N0
  have HN := Lib.hid hN
  obtain ⟨⟨y0, y1⟩, ⟨m0, m1⟩, d0, d1⟩ := PDate.ok_in ho
  unfold reD
  clear ho hN
  go_enter Try.func5, Try.ntmps5
  go_wp2_with fail
  obtain ⟨w1, hw1⟩ : ∃ w1, w1 = (w.alloc (.cells #[.int .i64 y, .int .i64 m, .int .i64 d] 23)).alloc (.cells #[.int .i64 y, .int .i64 m, .int .i64 d] 24) := ⟨_, rfl⟩
  rw [← hw1]
  obtain ⟨H, hH⟩ : ∃ H, H = w.heap.size := ⟨_, rfl⟩
  have DA : Hid (D3 w1 H y m d) := Lib.hid (by rw [hw1, hH]; exact (D3.new _ _ _ _ _).alloc _)
  have DB : Hid (D3 w1 (H + 1) y m d) := Lib.hid (by rw [hw1, hH]; have := D3.new (w.alloc (.cells #[.int .i64 y, .int .i64 m, .int .i64 d] 23)) 24 y m d; simpa using this)
  have B1 : Hid (Below w.heap.size w w1) := Lib.hid (by rw [hw1]; exact ((Below.refl _ _).alloc (Nat.le_refl _) _).alloc (by simp) _)
  rw [← hH]
  clear hw1 hH
  refine (CR.out _).mono ?_
  rintro _ w2 ⟨rfl, b2⟩
  have DA2 := Lib.hid (DA.out.on b2); have DB2 := Lib.hid (DB.out.on b2); have B2 := Lib.hid (below_step B1.out b2)
  obtain ⟨e0, e1, e2⟩ := DB2.out.1
  obtain ⟨c0, c1, c2⟩ := DA2.out.1
  clear b2 DA DB B1
  go_wp2_with fail
  obtain ⟨T, hT⟩ : ∃ T, T = w2.heap.size := ⟨_, rfl⟩
  have hTH : H < T := by rw [hT]; exact DA2.out.lt
  have DT : Hid (D3 (w2.alloc (.cells #[.int .i64 y, .int .i64 m, .int .i64 d] 24)) T y m d) := Lib.hid (by rw [hT]; exact D3.new _ _ _ _ _)
  have DA3 := Lib.hid (DA2.out.alloc (.cells #[.int .i64 y, .int .i64 m, .int .i64 d] 24))
  have B3 : Hid (Below w.heap.size w (w2.alloc (.cells #[.int .i64 y, .int .i64 m, .int .i64 d] 24))) := Lib.hid (B2.out.alloc B2.out.size _)
  have hTw : w.heap.size ≤ T := by rw [hT]; exact B2.out.size
  rw [← hT]
  have HTW := Lib.hid hTw; have HTH := Lib.hid hTH
  clear hT e0 e1 e2 c0 c1 c2 DA2 DB2 B2 hTw hTH
  go_loopw [8, 10] (fun s i wr => ∃ (k v Y M D : Int), 0 ≤ k ∧ k ≤ K + 1 ∧ i = .int .i64 k ∧ s = .int .i64 v ∧ Hid (v = cntTo N p k) ∧ 0 ≤ v ∧ v ≤ k ∧ Hid (PDate.ok Y M D) ∧ Hid (PDate.num Y M D = N + if k = 0 then 0 else k - 1) ∧ Hid (D3 wr T Y M D) ∧ Hid (D3 wr H y m d) ∧ Hid (Below w.heap.size w wr)) (fun _ i _ => (K + 1 - intOf i).toNat)
  case atStart => exact ⟨0, 0, y, m, d, by omega, by omega, rfl, rfl, (show Hid ((0 : Int) = cntTo N p 0) from (rfl : (0 : Int) = cntTo N p 0)), by omega, by omega, HO, Lib.hid (by rw [HN.out, if_pos rfl, Int.add_zero]), DT, DA3, B3⟩
  case round =>
    obtain ⟨k, v, Y, M, D, hk0, hk1, rfl, rfl, HV, hv0, hv1, HOk, HNum, DT4, DA4, B4⟩ := hrel
    obtain ⟨t0', t1', t2'⟩ := DT4.out.1
    by_cases hkK : k ≤ K
    · by_cases hk : k = 0
      · subst hk
        have DT6 := Lib.hid (DT4.out)
        have DA6 := Lib.hid (DA4.out)
        have B6 := Lib.hid (B4.out)
        have HOK := Lib.hid (HOk.out)
        have HNU := Lib.hid (show PDate.num Y M D = N + 0 by rw [HNum.out, if_pos rfl])
        go_upto_region 11 with fail
        generalize wr = wq at *
        skip
        obtain ⟨t0', t1', t2'⟩ := DT6.out.1
        obtain ⟨⟨yy0, yy1⟩, ⟨mm0, mm1⟩, -⟩ := PDate.ok_in HOK.out
        have HPI := Lib.hid (PDate.per_iff (p := p) HOK.out)
        by_cases hper : 12 * Y + M - 1 = p
        · have HC : Hid (v + 1 = cntTo N p (0 + 1)) := Lib.hid (by rw [cntTo_next hk0, if_pos (by have := HPI.out.1 hper; rw [HNU.out] at this; exact this), ← HV.out])
          have pq : (12 * Y + M - 1 == p) = true := by rw [hper]; exact beq_self_eq_true _
          clear hper
          go_wp2_with fail
          exact ⟨⟨0 + 1, v + 1, _, _, _, by omega, by omega, rfl, rfl, HC, by omega, by omega, HOK, Lib.hid (by rw [HNU.out, if_neg (by omega)]; omega), DT6, DA6, B6⟩, by simp [intOf]; omega⟩
        · have HC : Hid (v = cntTo N p (0 + 1)) := Lib.hid (by rw [cntTo_next hk0, if_neg (fun h => hper (HPI.out.2 (by rw [HNU.out]; exact h))), ← HV.out, Int.add_zero])
          have pq : (12 * Y + M - 1 == p) = false := by rw [beq_eq_false_iff_ne]; exact hper
          clear hper
          go_wp2_with fail
          exact ⟨⟨0 + 1, v, _, _, _, by omega, by omega, rfl, rfl, HC, by omega, by omega, HOK, Lib.hid (by rw [HNU.out, if_neg (by omega)]; omega), DT6, DA6, B6⟩, by simp [intOf]; omega⟩
      · have hk2 : 0 < k := by omega
        have CX : Hid (∀ w, Calls Try.prog 19 #[.agg #[.int .i64 Y, .int .i64 M, .int .i64 D]] w fun e w' => e = .returned (.agg #[.int .i64 (PDate.nxY Y M D), .int .i64 (PDate.nxM Y M D), .int .i64 (PDate.nxD Y M D)]) ∧ Below w.heap.size w w') := Lib.hid (fun w => refnext_any Y M D w HOk.out)
        have HX1 : Hid (PDate.num (PDate.nxY Y M D) (PDate.nxM Y M D) (PDate.nxD Y M D) = N + k) := Lib.hid (by rw [PDate.nx_num HOk.out, HNum.out, if_neg hk]; omega)
        have HX2 : Hid (PDate.ok (PDate.nxY Y M D) (PDate.nxM Y M D) (PDate.nxD Y M D)) := Lib.hid (PDate.nx_ok HOk.out (by rw [HNum.out, if_neg hk]; omega))
        generalize PDate.nxY Y M D = Y' at *
        generalize PDate.nxM Y M D = M' at *
        generalize PDate.nxD Y M D = D' at *
        go_wp2_with fail
        refine (CX.out _).mono ?_
        rintro _ w3 ⟨rfl, b3⟩
        have DT5 := Lib.hid (DT4.out.on b3); have DA5 := Lib.hid (DA4.out.on b3); have B5 := Lib.hid (below_step B4.out b3)
        clear b3 t0' t1' t2' DT4 DA4 B4
        obtain ⟨t0', t1', t2'⟩ := DT5.out.1
        obtain ⟨f0, f1, f2⟩ := DT5.out.2
        have DT6 := Lib.hid (((DT5.out.set0 Y').set1 M').set2 D')
        have DA6 : Hid (D3 (((w3.setCell ⟨T, 0, none⟩ (.int .i64 Y')).setCell ⟨T, 1, none⟩ (.int .i64 M')).setCell ⟨T, 2, none⟩ (.int .i64 D')) H y m d) := Lib.hid (((DA5.out.far (p := ⟨T, 0, none⟩) (Nat.ne_of_gt HTH.out) _).far (p := ⟨T, 1, none⟩) (Nat.ne_of_gt HTH.out) _).far (p := ⟨T, 2, none⟩) (Nat.ne_of_gt HTH.out) _)
        have B6 : Hid (Below w.heap.size w (((w3.setCell ⟨T, 0, none⟩ (.int .i64 Y')).setCell ⟨T, 1, none⟩ (.int .i64 M')).setCell ⟨T, 2, none⟩ (.int .i64 D'))) := Lib.hid (((B5.out.setCell (p := ⟨T, 0, none⟩) HTW.out _).setCell (p := ⟨T, 1, none⟩) HTW.out _).setCell (p := ⟨T, 2, none⟩) HTW.out _)
        have HOK := Lib.hid (HX2.out)
        have HNU := Lib.hid (HX1.out)
        go_upto_region 11 with fail
        generalize (((w3.setCell ⟨T, 0, none⟩ (.int .i64 Y')).setCell ⟨T, 1, none⟩ (.int .i64 M')).setCell ⟨T, 2, none⟩ (.int .i64 D')) = wq at *
        clear t0' t1' t2' f0 f1 f2 DT5 DA5 B5
        obtain ⟨t0', t1', t2'⟩ := DT6.out.1
        obtain ⟨⟨yy0, yy1⟩, ⟨mm0, mm1⟩, -⟩ := PDate.ok_in HOK.out
        have HPI := Lib.hid (PDate.per_iff (p := p) HOK.out)
        by_cases hper : 12 * Y' + M' - 1 = p
        · have HC : Hid (v + 1 = cntTo N p (k + 1)) := Lib.hid (by rw [cntTo_next hk0, if_pos (by have := HPI.out.1 hper; rw [HNU.out] at this; exact this), ← HV.out])
          have pq : (12 * Y' + M' - 1 == p) = true := by rw [hper]; exact beq_self_eq_true _
          clear hper
          go_wp2_with fail
          exact ⟨⟨k + 1, v + 1, _, _, _, by omega, by omega, rfl, rfl, HC, by omega, by omega, HOK, Lib.hid (by rw [HNU.out, if_neg (by omega)]; omega), DT6, DA6, B6⟩, by simp [intOf]; omega⟩
        · have HC : Hid (v = cntTo N p (k + 1)) := Lib.hid (by rw [cntTo_next hk0, if_neg (fun h => hper (HPI.out.2 (by rw [HNU.out]; exact h))), ← HV.out, Int.add_zero])
          have pq : (12 * Y' + M' - 1 == p) = false := by rw [beq_eq_false_iff_ne]; exact hper
          clear hper
          go_wp2_with fail
          exact ⟨⟨k + 1, v, _, _, _, by omega, by omega, rfl, rfl, HC, by omega, by omega, HOK, Lib.hid (by rw [HNU.out, if_neg (by omega)]; omega), DT6, DA6, B6⟩, by simp [intOf]; omega⟩
    · obtain rfl : k = K + 1 := by omega
      obtain ⟨c0, c1, c2⟩ := DA4.out.1
      have CD : Hid (∀ w, Calls Try.prog 20 #[.agg #[.int .i64 y, .int .i64 m, .int .i64 d], .agg #[.int .i64 Y, .int .i64 M, .int .i64 D], .int .i64 p] w fun e w' => e = .returned (.int .i64 v) ∧ Below w.heap.size w w') := Lib.hid (fun w => by
        have ok2 := HOk.out
        have hr := PDate.ok_in ok2
        have := ddays_any (w := w) (y := y) (m := m) (d := d) (y' := Y) (m' := M) (d' := D) (p := p) (by unfold I64; omega) (by unfold I64; omega) (by unfold I64; omega) (by unfold I64; omega) (by unfold I64; omega) (by unfold I64; omega) ⟨hp0, hp1⟩
        rw [PDate.days_ok HO.out ok2, HN.out, HNum.out, if_neg (by omega)] at this
        have e : PDate.cnt N (N + (K + 1 - 1)) p = v := by
          rw [HV.out]; unfold cntTo; rw [if_neg (by omega), show N + (K + 1) - 1 = N + (K + 1 - 1) by omega]
        rw [e] at this; exact this)
      have vv : (v == v) = true := beq_self_eq_true _
      go_wp2_with fail
      refine (CD.out _).mono ?_
      rintro _ w7 ⟨rfl, b7⟩
      have B7 := Lib.hid (below_step B4.out b7)
      clear b7 c0 c1 c2 t0' t1' t2'
      go_wp2_with fail
      refine (awake_any _).mono ?_
      rintro _ w8 ⟨rfl, b8⟩
      have B8 := Lib.hid (below_step B7.out b8)
      clear b8
      go_wp2_with fail
      go_ret
      exact ⟨rfl, B8.out⟩

theorem ddays_walk (y m d t p : Int) (w : World) (hy : I64 y) (hm : I64 m) (hd : I64 d) (ht : (Lit.int .u16 t).wf = true) (hp : (Lit.int .i64 p).wf = true) :
    Calls Try.prog 5 #[reD y m d, .int .u16 t, .int .i64 p] w fun e w' => e = .returned (.bool true) ∧ Below w.heap.size w w' := by
  obtain ⟨t0, t1⟩ := u16_bounds ht
  obtain ⟨p0, p1⟩ := i64_bounds hp
  by_cases ho : PDate.ok y m d
  · by_cases hl : y ≤ 2990
    · exact ddays_in y m d p t _ w ho hl p0 p1 rfl t0 t1
    · exact ddays_late y m d p t w ho (by omega)
  · exact ddays_none y m d p t w ho hy hm hd ⟨p0, p1⟩
end Go.Proofs.Ytanciheeobgngaa
