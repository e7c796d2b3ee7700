/-
  LexJoins: the tokens of two texts, a byte 10 between, are those of both, the second one's places shifted; or the first error.
-/
import Derived.Test.YtiniiopapkkimaaLaw07Awake
import Derived.Deep.QuietTactic
import Derived.BigQuiet
import Derived.Handy
namespace Go.Proofs.Ytiniiopapkkimaa
open Go.RowKit

theorem join_all {s t : ByteArray} : PLex.all PLex.kindOf 0 (s ++ { data := #[10] } ++ t).data.toList = match PLex.all PLex.kindOf 0 s.data.toList with
    | (some q, ts) => (some q, ts)
    | (none, ts) => ((PLex.all PLex.kindOf 0 t.data.toList).1.map (· + (s.size + 1)), ts ++ (PLex.all PLex.kindOf 0 t.data.toList).2.map (PLex.Tok.shift (s.size + 1))) := by
  have e : (s ++ { data := #[10] } ++ t).data.toList = s.data.toList ++ 10 :: t.data.toList := by
    rw [ByteArray.data_append, ByteArray.data_append, Array.toList_append, Array.toList_append, List.append_assoc]; rfl
  have hl : s.data.toList.length = s.size := by simp
  have h := PLex.all_shift PLex.kindOf t.data.toList.length 0 (s.size + 1) t.data.toList (Nat.le_refl _)
  rw [e, PLex.all_join _ _ _ _ _ (Nat.le_refl _), hl, show 0 + s.size + 1 = 0 + (s.size + 1) by omega, h]
  obtain ⟨q, ts⟩ := PLex.all PLex.kindOf 0 s.data.toList
  cases q <;> rfl

set_option maxHeartbeats 3200000 in
theorem ljoins_walk (s t : ByteArray) (w : World) (hm : s.size ≤ maxLen) (hm2 : t.size ≤ maxLen) :
    Calls Try.prog 6 #[.string s, .string t] w fun e w' => e = .returned (.bool true) ∧ Below w.heap.size w w' := by
  unfold maxLen at hm hm2
  by_cases hs : 300 < s.size
  · have hs' : (300 : Int) < (s.size : Int) := by omega
    go_enter Try.func6, Try.ntmps6
    go_wp2_with fail
    refine (awake_any _).mono ?_
    rintro _ w1 ⟨rfl, b⟩
    have B := Lib.hid b
    clear b
    go_wp2_with fail
    go_ret
    exact ⟨rfl, B.out⟩
  by_cases ht : 300 < t.size
  · have hs' : ¬ (300 : Int) < (s.size : Int) := by omega
    have ht' : (300 : Int) < (t.size : Int) := by omega
    go_enter Try.func6, Try.ntmps6
    go_wp2_with fail
    refine (awake_any _).mono ?_
    rintro _ w1 ⟨rfl, b⟩
    have B := Lib.hid b
    clear b
    go_wp2_with fail
    go_ret
    exact ⟨rfl, B.out⟩
  have hs' : ¬ (300 : Int) < (s.size : Int) := by omega
  have ht' : ¬ (300 : Int) < (t.size : Int) := by omega
  obtain ⟨r, hr⟩ : ∃ r, PLex.all PLex.kindOf 0 s.data.toList = r := ⟨_, rfl⟩
  obtain ⟨q, ts⟩ := r
  obtain ⟨r2, hr2⟩ : ∃ r, PLex.all PLex.kindOf 0 t.data.toList = r := ⟨_, rfl⟩
  obtain ⟨q2, us⟩ := r2
  have hj := join_all (s := s) (t := t)
  rw [hr, hr2] at hj
  have hsz : (s ++ { data := #[10] } ++ t).size ≤ 99999 := by
    show (s ++ { data := #[10] } ++ t).data.size ≤ 99999
    rw [ByteArray.data_append, ByteArray.data_append, Array.size_append, Array.size_append]
    show s.size + 1 + t.size ≤ 99999; omega
  obtain ⟨-, hn, hn2⟩ := lex_facts hr
  obtain ⟨-, hn3, hn4⟩ := lex_facts hr2
  have hpl := PLex.all_place (K := PLex.kindOf) t.data.toList.length 0 t.data.toList (Nat.le_refl _)
  rw [hr2] at hpl
  have hsz1 : (s ++ { data := #[10] }).size = s.size + 1 := by
    show (s ++ { data := #[10] }).data.size = s.size + 1
    rw [ByteArray.data_append, Array.size_append]; rfl
  have hts : ts.length ≤ 300 := by omega
  have hus : us.length ≤ 300 := by omega
  clear hn hn2 hn3 hn4
  cases q with
  | some q =>
    have H1 := Lib.hid (lall_bad (s := s) (q := q) (by rw [hr]) (by omega))
    have H2 : Hid (∀ w, Calls Try.prog 9 #[.string t] w fun e w' => ∃ A n cap P E, e = .returned (.tuple #[.slice A n cap, .int .i64 P, .int .i64 E]) ∧ Below w.heap.size w w') := Lib.hid (fun w => (lall_any t w (by omega)).mono fun e w' k => by
      obtain ⟨A, n, cap, h, _, _, _, b⟩ := k
      exact ⟨A, n, cap, _, _, h, b⟩)
    have H3 := Lib.hid (lall_bad (s := s ++ { data := #[10] } ++ t) (q := q) (by rw [hj]) hsz)
    have qq : ((q : Int) == (q : Int)) = true := beq_self_eq_true _
    clear hr hr2 hj hsz hpl
    go_enter Try.func6, Try.ntmps6
    go_wp2_with fail
    refine (H1.out _).mono ?_
    rintro _ w1 ⟨A, cap, rfl, b⟩
    have B1 := Lib.hid b
    clear b H1
    go_wp2_with fail
    refine (H2.out _).mono ?_
    rintro _ w2 ⟨A2, n2, cap2, P2, E2, rfl, b⟩
    have B2 := Lib.hid (below_step B1.out b)
    clear b H2 B1
    go_wp2_with fail
    refine (H3.out _).mono ?_
    rintro _ w3 ⟨A3, cap3, rfl, b⟩
    have B3 := Lib.hid (below_step B2.out b)
    clear b H3 B2
    go_wp2_with fail
    refine (awake_any _).mono ?_
    rintro _ w4 ⟨rfl, b⟩
    have B4 := Lib.hid (below_step B3.out b)
    clear b
    go_wp2_with fail
    go_ret
    exact ⟨rfl, B4.out⟩
  | none =>
    have H1 := Lib.hid (lall_ok (s := s) (ts := ts) hr (by omega))
    cases q2 with
    | some q2 =>
      have hq2 : q2 ≤ 300 := by have := (hpl q2 rfl).2; simp at this; omega
      have H2 := Lib.hid (lall_bad (s := t) (q := q2) (by rw [hr2]) (by omega))
      have H3 := Lib.hid (lall_bad (s := s ++ { data := #[10] } ++ t) (q := q2 + (s.size + 1)) (by rw [hj]; rfl) hsz)
      clear hr hr2 hj hsz hpl
      go_enter Try.func6, Try.ntmps6
      go_wp2_with fail
      refine (H1.out _).mono ?_
      rintro _ w1 ⟨A, cap, rfl, -, b⟩
      have B1 := Lib.hid b
      clear b H1
      go_wp2_with fail
      refine (H2.out _).mono ?_
      rintro _ w2 ⟨A2, cap2, rfl, b⟩
      have B2 := Lib.hid (below_step B1.out b)
      clear b H2 B1
      go_wp2_with fail
      refine (H3.out _).mono ?_
      rintro _ w3 ⟨A3, cap3, rfl, b⟩
      have B3 := Lib.hid (below_step B2.out b)
      clear b H3 B2
      go_wp2_with fail
      refine (awake_any _).mono ?_
      rintro _ w4 ⟨rfl, b⟩
      have B4 := Lib.hid (below_step B3.out b)
      clear b
      go_wp2_with fail
      go_ret
      exact ⟨rfl, B4.out⟩
    | none =>
      have H2 := Lib.hid (lall_ok (s := t) (ts := us) hr2 (by omega))
      obtain ⟨vs, hvs⟩ : ∃ vs, ts ++ us.map (PLex.Tok.shift (s.size + 1)) = vs := ⟨_, rfl⟩
      have h3 := lall_ok (s := s ++ { data := #[10] } ++ t) (ts := vs) (by rw [hj, ← hvs]; rfl) hsz
      have hvl : vs.length = ts.length + us.length := by rw [← hvs]; simp
      have hv1 : ∀ (i : Nat) (h : i < ts.length) (h' : i < vs.length), vs[i] = ts[i] := fun i h h' => by subst hvs; exact List.getElem_append_left h
      have hv2 : ∀ (i : Nat) (h : i < us.length) (h' : ts.length + i < vs.length), vs[ts.length + i] = PLex.Tok.shift (s.size + 1) us[i] := fun i h h' => by
        subst hvs
        rw [List.getElem_append_right (Nat.le_add_right _ _)]
        simp
      have HV1 := Lib.hid hv1
      have HV2 := Lib.hid hv2
      have HVL := Lib.hid hvl
      rw [hvl] at h3
      have H3 := Lib.hid h3
      have nn : (((ts.length + us.length : Nat) : Int) != (ts.length : Int) + (us.length : Int)) = false := by rw [bne_eq_false_iff_eq]; omega
      have hat := PLex.all_placed (K := PLex.kindOf) t.data.toList.length 0 t.data.toList (Nat.le_refl _)
      rw [hr2] at hat
      have HAT : Hid (∀ (i : Nat) (h : i < us.length), us[i].at_ ≤ 300) := Lib.hid (fun i h => by
        have := PLex.placed_at hat i h
        simp at this; omega)
      clear hr hr2 hj hsz hpl hvs hv1 hv2 hvl h3 hat
      go_enter Try.func6, Try.ntmps6
      go_wp2_with fail
      refine (H1.out _).mono ?_
      rintro _ w1 ⟨A, cap, rfl, s1, b⟩
      have B1 := Lib.hid b
      have S1 := Lib.hid s1
      clear b H1 s1
      go_wp2_with fail
      refine (H2.out _).mono ?_
      rintro _ w2 ⟨A2, cap2, rfl, s2, b⟩
      have B2 := Lib.hid (below_step B1.out b)
      have S1' := Lib.hid (S1.out.on b)
      have S2 := Lib.hid s2
      clear b H2 B1 S1 s2
      go_wp2_with fail
      refine (H3.out _).mono ?_
      rintro _ w3 ⟨A3, cap3, rfl, s3, b⟩
      have B3 := Lib.hid (below_step B2.out b)
      have T1 := Lib.hid (S1'.out.on b)
      have T2 := Lib.hid (S2.out.on b)
      have T3 := Lib.hid s3
      clear b H3 B2 S1' S2 s3
      go_wp2_with fail
      go_loopw [105] (fun i wr => ∃ (j : Nat), j ≤ ts.length ∧ i = .int .i64 j ∧ Hid (Below w3.heap.size w3 wr)) (fun i _ => ts.length - (intOf i).toNat)
      case atStart => exact ⟨0, Nat.zero_le _, rfl, (show Hid _ from Below.refl _ _)⟩
      case round =>
        obtain ⟨j, hj, rfl, HW⟩ := hrel
        have st1 := T1.out.on HW.out
        have st3 := T3.out.on HW.out
        by_cases hlt : j < ts.length
        · obtain ⟨b, off, rfl, hc⟩ := st1.at hlt
          obtain ⟨b3, off3, rfl, hc3⟩ := st3.at (i := j) (by omega)
          obtain ⟨c0, c1, c2⟩ := hc j hlt
          have hj3 : j < vs.length := by rw [HVL.out]; omega
          obtain ⟨d0, d1, d2⟩ := hc3 j hj3
          rw [HV1.out j hlt hj3] at d0 d1 d2
          have hsz := World.block_lt_of_cell? wr _ c0
          have hsz3 := World.block_lt_of_cell? wr _ d0
          generalize ts[j] = x at *
          clear hc hc3 st1 st3
          go_wp2_with fail
          go_big_quiet (fail)
          go_wp2_with fail
          exact ⟨⟨j + 1, by omega, rfl, Lib.hid (below_drewT (HW.out.alloc HW.out.size _) _)⟩, by simp [intOf]; omega⟩
        · obtain rfl : j = ts.length := by omega
          have B4 := Lib.hid (below_step B3.out HW.out)
          have U2 := Lib.hid (T2.out.on HW.out)
          have U3 := Lib.hid st3
          clear st1 st3 T1 T2 T3 HV1 B3 HW
          obtain ⟨w4, hw4⟩ : ∃ w4, w4 = wr := ⟨_, rfl⟩
          subst hw4
          go_wp2_with fail
          go_loopw [119] (fun i wr => ∃ (j : Nat), j ≤ us.length ∧ i = .int .i64 j ∧ Hid (Below w4.heap.size w4 wr)) (fun i _ => us.length - (intOf i).toNat)
          case atStart => exact ⟨0, Nat.zero_le _, rfl, (show Hid _ from Below.refl _ _)⟩
          case round =>
            obtain ⟨j, hj, rfl, HW⟩ := hrel
            have st2 := U2.out.on HW.out
            have st3 := U3.out.on HW.out
            by_cases hlt : j < us.length
            · obtain ⟨b, off, rfl, hc⟩ := st2.at hlt
              obtain ⟨b3, off3, rfl, hc3⟩ := st3.at (i := j) (by omega)
              obtain ⟨c0, c1, c2⟩ := hc j hlt
              have hj3 : ts.length + j < vs.length := by rw [HVL.out]; omega
              obtain ⟨d0, d1, d2⟩ := hc3 _ hj3
              have hat := HAT.out j hlt
              rw [HV2.out j hlt hj3] at d0 d1 d2
              simp only [PLex.Tok.shift] at d0 d1 d2
              have hsz := World.block_lt_of_cell? wr _ c0
              have hsz3 := World.block_lt_of_cell? wr _ d0
              generalize us[j] = x at *
              clear hc hc3 st2 st3
              go_wp2_with fail
              go_big_quiet (fail)
              go_wp2_with fail
              exact ⟨⟨j + 1, by omega, rfl, Lib.hid (below_drewT (HW.out.alloc HW.out.size _) _)⟩, by simp [intOf]; omega⟩
            · obtain rfl : j = us.length := by omega
              have B5 := Lib.hid (below_step B4.out HW.out)
              clear st2 st3
              go_wp2_with fail
              refine (awake_any _).mono ?_
              rintro _ w5 ⟨rfl, b⟩
              have B6 := Lib.hid (below_step B5.out b)
              clear b
              go_wp2_with fail
              go_ret
              exact ⟨rfl, B6.out⟩
end Go.Proofs.Ytiniiopapkkimaa
