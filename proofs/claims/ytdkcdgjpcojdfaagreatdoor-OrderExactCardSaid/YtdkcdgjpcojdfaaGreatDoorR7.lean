/-
  The reference's words are words.
  What the reference of layer 7 answers: does a byte stand in a text; the end of a run.
  What the reference of layer 7 answers: is a text a whole number?
  What the reference of layer 7 answers: the kind of a run of digits.
-/
import Derived.Test.YtdkcdgjpcojdfaaGreatDoorTK
import Derived.Test.YtdkcdgjpcojdfaaGreatDoorPM
import Derived.ProofKit
import Derived.OpenShut
import Derived.ChangeOld
import Derived.Below
import Derived.Test.YtdkcdgjpcojdfaaGreatDoorR1

namespace Go.Proofs.YtdkcdgjpcojdfaaGreatDoor
open Go.RowKit

theorem ref_tokTy : TokTy 74 64 where
  info := ⟨.agg #[.int .i64 0, .string ⟨#[]⟩, .int .i64 0], by kernel_rfl, by rfl⟩
  under := by kernel_rfl
end Go.Proofs.YtdkcdgjpcojdfaaGreatDoor

namespace Go.Proofs.YtdkcdgjpcojdfaaGreatDoor
open Go.RowKit

set_option maxHeartbeats 800000 in
theorem refin_any (c : UInt8) (s : ByteArray) (w : World) (hs : s.size ≤ 9223372036854775807) :
    Calls Tryz.prog 40 #[.int .u8 c.toNat, .string s] w fun e w' => e = .returned (.bool (inB c s.data.toList)) ∧ w = w' := by
  go_enter Tryz.func40, Tryz.ntmps40
  go_wp2
  go_loop [5] (fun i => ∃ (j : Nat), j ≤ s.size ∧ i = .int .i64 j ∧ Hid (noneTo c s j)) (fun i => s.size - (intOf i).toNat)
  case atStart => exact ⟨0, Nat.zero_le _, rfl, (show Hid _ from fun i _ hi => by omega)⟩
  case round =>
    obtain ⟨j, hj, rfl, HN⟩ := hrel
    by_cases hlt : j < s.size
    · by_cases hc : s[j] = c
      · have HF := Lib.hid (contains_yes hlt hc)
        have hcc : (((s[j].toNat : Nat) : Int) == ((c.toNat : Nat) : Int)) = true := by rw [hc]; exact beq_self_eq_true _
        clear hc
        go_wp2
        go_ret
        exact ⟨by rw [HF.out]; rfl, rfl⟩
      · have HN2 : Hid (noneTo c s (j + 1)) := Lib.hid (fun i h hi => by
          by_cases e : i = j
          · subst e; exact hc
          · exact HN.out i h (by omega))
        have hcc : (((s[j].toNat : Nat) : Int) == ((c.toNat : Nat) : Int)) = false := by
          rw [beq_eq_false_iff_ne]
          intro k
          exact hc (UInt8.toNat_inj.1 (by omega))
        clear hc
        go_wp2
        go_round
        case rel => exact ⟨j + 1, by omega, by go_num, HN2⟩
        case measure => simp [intOf]; omega
    · obtain rfl : j = s.size := by omega
      have HF := Lib.hid (contains_no HN.out)
      go_wp2
      go_ret
      exact ⟨by rw [HF.out]; rfl, rfl⟩

set_option maxHeartbeats 800000 in
theorem refend_any (s l : ByteArray) (a : Nat) (w : World) (hs : s.size ≤ 9223372036854775807) (hl : l.size ≤ 9223372036854775807) (ha : a ≤ s.size) :
    Calls Tryz.prog 41 #[.string s, .int .i64 a, .string l] w fun e w' => e = .returned (.int .i64 (endOf l.data.toList s a : Nat)) ∧ w = w' := by
  have HI : Hid (∀ c : UInt8, Calls Tryz.prog 40 #[.int .u8 c.toNat, .string l] w fun e w' => e = .returned (.bool (inB c l.data.toList)) ∧ w = w') := Lib.hid (fun c => refin_any c l w hl)
  go_enter Tryz.func41, Tryz.ntmps41
  go_wp2
  go_loop [1] (fun i => ∃ (j : Nat), j ≤ s.size ∧ i = .int .i64 j ∧ Hid (endOf l.data.toList s a = endOf l.data.toList s j)) (fun i => s.size - (intOf i).toNat)
  case atStart => exact ⟨a, ha, rfl, (show Hid _ from rfl)⟩
  case round =>
    obtain ⟨j, hj, rfl, HE⟩ := hrel
    by_cases hlt : j < s.size
    · obtain ⟨b, hb⟩ : ∃ b, inB s[j] l.data.toList = b := ⟨_, rfl⟩
      have HC := Lib.hid (HI.out s[j])
      rw [hb] at HC
      cases b with
      | true =>
        have HE2 : Hid (endOf l.data.toList s a = endOf l.data.toList s (j + 1)) := Lib.hid (by rw [HE.out, endOf_yes hlt hb])
        clear hb
        go_wp2_with fail
        refine HC.out.mono ?_
        rintro _ _ ⟨rfl, rfl⟩
        go_wp2_with fail
        go_round
        case rel => exact ⟨j + 1, by omega, by go_num, HE2⟩
        case measure => simp [intOf]; omega
      | false =>
        have HE2 : Hid (endOf l.data.toList s a = j) := Lib.hid (by rw [HE.out, endOf_no hlt hb])
        clear hb
        go_wp2_with fail
        refine HC.out.mono ?_
        rintro _ _ ⟨rfl, rfl⟩
        go_wp2_with fail
        go_ret
        exact ⟨by rw [HE2.out]; rfl, rfl⟩
    · obtain rfl : j = s.size := by omega
      have HE2 : Hid (endOf l.data.toList s a = s.size) := Lib.hid (by rw [HE.out, endOf_last])
      go_wp2_with fail
      go_ret
      exact ⟨by rw [HE2.out]; rfl, rfl⟩
end Go.Proofs.YtdkcdgjpcojdfaaGreatDoor

namespace Go.Proofs.YtdkcdgjpcojdfaaGreatDoor
open Go.RowKit

set_option maxHeartbeats 1600000 in
theorem refwhole_any (s : ByteArray) (w : World) (hs : s.size ≤ 9223372036854775807) :
    Calls Tryz.prog 71 #[.string s] w fun e w' => e = .returned (.bool (PLex.whole s.data.toList)) ∧ w = w' := by
  have HI : Hid (∀ c : UInt8, Calls Tryz.prog 40 #[.int .u8 c.toNat, .string { data := #[48, 49, 50, 51, 52, 53, 54, 55, 56, 57] }] w fun e w' => e = .returned (.bool (PLex.isDig c)) ∧ w = w') := Lib.hid (fun c => by
    have := refin_any c digL w (by decide)
    rw [dig_in] at this; exact this)
  obtain ⟨b, hb⟩ : ∃ b, PLex.whole s.data.toList = b := ⟨_, rfl⟩
  have HB := Lib.hid hb
  rw [hb]
  clear hb
  go_enter Tryz.func71, Tryz.ntmps71
  go_wp2
  go_loop [3] (fun i => ∃ (j : Nat), j ≤ s.size ∧ i = .int .i64 j ∧ Hid (digsTo s j)) (fun i => s.size - (intOf i).toNat)
  case atStart => exact ⟨0, Nat.zero_le _, rfl, (show Hid _ from fun i _ hi => by omega)⟩
  case round =>
    obtain ⟨j, hj, rfl, HD⟩ := hrel
    by_cases hlt : j < s.size
    · have HC := Lib.hid (HI.out s[j])
      obtain ⟨q, hq⟩ : ∃ q, PLex.isDig s[j] = q := ⟨_, rfl⟩
      rw [hq] at HC
      cases q with
      | true =>
        have HD2 : Hid (digsTo s (j + 1)) := Lib.hid (fun i h hi => by
          by_cases e : i = j
          · subst e; exact hq
          · exact HD.out i h (by omega))
        clear hq
        go_wp2_with fail
        refine HC.out.mono ?_
        rintro _ _ ⟨rfl, rfl⟩
        go_wp2_with fail
        go_round
        case rel => exact ⟨j + 1, by omega, by go_num, HD2⟩
        case measure => simp [intOf]; omega
      | false =>
        have HF : Hid (b = false) := Lib.hid (by rw [← HB.out]; unfold PLex.whole; rw [not_digs hlt hq]; rfl)
        clear hq
        go_wp2_with fail
        refine HC.out.mono ?_
        rintro _ _ ⟨rfl, rfl⟩
        go_wp2_with fail
        go_ret
        exact ⟨by rw [HF.out]; rfl, rfl⟩
    · obtain rfl : j = s.size := by omega
      have hall := all_digs HD.out
      have hlen : s.data.toList.length = s.size := by simp
      have HW : Hid (b = (decide (0 < s.size) && decide (s.size < 10) && (s.size == 1 || s.data.toList.head? != some 48))) := Lib.hid (by
        rw [← HB.out]; unfold PLex.whole; rw [hall, hlen]; simp [Bool.and_assoc])
      by_cases h0 : s.size = 0
      · have HF : Hid (b = false) := Lib.hid (by rw [HW.out, h0]; rfl)
        have z0 : ¬ 0 < (s.size : Int) := by omega
        clear HW hall hlen
        go_wp2_with fail
        go_ret
        exact ⟨by rw [HF.out]; rfl, rfl⟩
      by_cases h10 : s.size < 10
      · by_cases h1 : s.size = 1
        · have HF : Hid (b = true) := Lib.hid (by rw [HW.out, h1]; rfl)
          clear HW hall hlen
          go_wp2_with fail
          go_ret
          exact ⟨by rw [HF.out]; rfl, rfl⟩
        · have h1b : (s.size == 1) = false := by rw [beq_eq_false_iff_ne]; exact h1
          have h1c : ((s.size : Int) == 1) = false := by rw [beq_eq_false_iff_ne]; omega
          have hp : 0 < s.size := by omega
          have hh : s.data.toList.head? = some s[0] := by
            have := drop_at (s := s) (j := 0) hp
            rw [List.drop_zero] at this
            rw [this]; rfl
          by_cases hz : s[0] = 48
          · have HF : Hid (b = false) := Lib.hid (by rw [HW.out, hh, hz, h1b]; simp)
            have hzz : (((s[0].toNat : Nat) : Int) != 48) = false := by rw [hz]; rfl
            clear HW hall hlen hh hz
            go_wp2_with fail
            go_ret
            exact ⟨by rw [HF.out]; rfl, rfl⟩
          · have HF : Hid (b = true) := Lib.hid (by rw [HW.out, hh, h1b, decide_eq_true hp, decide_eq_true h10]; simp [hz])
            have hzz : (((s[0].toNat : Nat) : Int) != 48) = true := by
              rw [bne_iff_ne]; intro k; apply hz; apply UInt8.toNat_inj.1; show s[0].toNat = 48; omega
            clear HW hall hlen hh hz
            go_wp2_with fail
            go_ret
            exact ⟨by rw [HF.out]; rfl, rfl⟩
      · have HF : Hid (b = false) := Lib.hid (by rw [HW.out, decide_eq_false h10]; simp)
        clear HW hall hlen
        go_wp2_with fail
        go_ret
        exact ⟨by rw [HF.out]; rfl, rfl⟩
end Go.Proofs.YtdkcdgjpcojdfaaGreatDoor

namespace Go.Proofs.YtdkcdgjpcojdfaaGreatDoor
open Go.RowKit

set_option maxHeartbeats 800000 in
theorem refkind_any (s : ByteArray) (w : World) (hs : s.size ≤ 9223372036854775807) :
    Calls Tryz.prog 42 #[.string s] w fun e w' => e = .returned (.int .i64 (PLex.kindOf s.data.toList : Nat)) ∧ Below w.heap.size w w' := by
  have H1 := Lib.hid (fun w => refparse_any s w hs)
  have H2 := Lib.hid (fun w => refparse3 s w hs)
  have H3 := Lib.hid (fun w => refwhole_any s w hs)
  obtain ⟨k, hk⟩ : ∃ k, PLex.kindOf s.data.toList = k := ⟨_, rfl⟩
  have HK := Lib.hid hk
  rw [hk]
  clear hk
  go_enter Tryz.func42, Tryz.ntmps42
  go_wp2_with fail
  refine (H1.out _).mono ?_
  rintro _ w1 ⟨x, b, rfl, hb, -, b1⟩
  have B1 := Lib.hid b1
  have HB := Lib.hid hb
  clear b1 hb
  go_wp2_with fail
  refine (H2.out _).mono ?_
  rintro _ w2 ⟨he, b2⟩
  have B2 := Lib.hid (below_step B1.out b2)
  clear b2
  obtain ⟨y, c, hc, he2⟩ : ∃ (y : Int) (c : Bool), c = (PRate.parse s.data.toList).isSome ∧ rparseV s.data.toList = .tuple #[.int .i64 y, .bool c] := by
    cases h : PRate.parse s.data.toList with
    | none => exact ⟨0, false, rfl, rparseV_none h⟩
    | some n => exact ⟨n, true, rfl, rparseV_some h⟩
  rw [he2] at he
  subst he
  have HC := Lib.hid hc
  clear hc he2
  cases b with
  | true =>
    have HF : Hid (k = 3) := Lib.hid (by rw [← HK.out]; unfold PLex.kindOf; rw [if_pos HB.out.symm])
    go_wp2_with fail
    go_ret
    exact ⟨by rw [HF.out]; rfl, B2.out⟩
  | false =>
    cases c with
    | true =>
      have HF : Hid (k = 4) := Lib.hid (by rw [← HK.out]; unfold PLex.kindOf; rw [if_neg (by rw [← HB.out]; exact Bool.false_ne_true), if_pos HC.out.symm])
      go_wp2_with fail
      go_ret
      exact ⟨by rw [HF.out]; rfl, B2.out⟩
    | false =>
      obtain ⟨q, hq⟩ : ∃ q, PLex.whole s.data.toList = q := ⟨_, rfl⟩
      have HQ := Lib.hid hq
      rw [hq] at H3
      clear hq
      go_wp2_with fail
      refine (H3.out _).mono ?_
      rintro _ _ ⟨rfl, rfl⟩
      cases q with
      | true =>
        have HF : Hid (k = 2) := Lib.hid (by rw [← HK.out]; unfold PLex.kindOf; rw [if_neg (by rw [← HB.out]; exact Bool.false_ne_true), if_neg (by rw [← HC.out]; exact Bool.false_ne_true), if_pos HQ.out])
        go_wp2_with fail
        go_ret
        exact ⟨by rw [HF.out]; rfl, B2.out⟩
      | false =>
        have HF : Hid (k = 0) := Lib.hid (by rw [← HK.out]; unfold PLex.kindOf; rw [if_neg (by rw [← HB.out]; exact Bool.false_ne_true), if_neg (by rw [← HC.out]; exact Bool.false_ne_true), if_neg (by rw [HQ.out]; exact Bool.false_ne_true)])
        go_wp2_with fail
        go_ret
        exact ⟨by rw [HF.out]; rfl, B2.out⟩
end Go.Proofs.YtdkcdgjpcojdfaaGreatDoor
