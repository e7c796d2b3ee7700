/-
  What the landed lexer's isWhole and numberKind answer of a run of digits, dots and %.
-/
import Derived.Test.YtpakepapjnakgaaDoorLexBitsG
import Derived.Test.YtpakepapjnakgaaDoorTK

namespace PLex
open Go
theorem text_dot (n : Int) : (46 : UInt8) ∈ PMoney.text n := by
  unfold PMoney.text PMoney.textNat
  split <;> simp
theorem not_dig {l : List UInt8} {c : UInt8} (h : c ∈ l) (hc : isDig c = false) : ¬ l.all isDig = true := by
  intro k; rw [List.all_eq_true] at k; have := k c h; rw [hc] at this; cases this
theorem whole_all {l : List UInt8} (h : whole l = true) : l.all isDig = true := by
  unfold whole at h; rw [Bool.and_eq_true] at h; exact h.1
theorem whole_money {l : List UInt8} (h : whole l = true) : PMoney.parse l = none := by
  cases hp : PMoney.parse l with
  | none => rfl
  | some n =>
    have := (PMoney.parse_some hp).1
    exact absurd (whole_all h) (not_dig (c := 46) (by rw [← this]; exact text_dot n) rfl)
theorem whole_rate {l : List UInt8} (h : whole l = true) : PRate.parse l = none := by
  cases hp : PRate.parse l with
  | none => rfl
  | some n =>
    have := ((PRate.parse_iff l n).1 hp).2.2
    exact absurd (whole_all h) (not_dig (c := 37) (by rw [← this]; unfold PRate.text; simp) rfl)
theorem kind_whole {l : List UInt8} (h : whole l = true) : kindOf l = 2 := by
  unfold kindOf; rw [whole_money h, whole_rate h, h]; rfl
theorem kind_other {l : List UInt8} (h : whole l = false) : kindOf l = if (PMoney.parse l).isSome = true then 3 else if (PRate.parse l).isSome = true then 4 else 0 := by
  unfold kindOf; rw [h]; rfl
end PLex
namespace Go.Proofs.YtpakepapjnakgaaDoor
open Go.RowKit

set_option maxHeartbeats 1600000 in
theorem iswhole_any (s : ByteArray) (w : World) (h0 : 0 < s.size) (hs : s.size ≤ 9223372036854775807) :
    Calls Tryd.prog 43 #[.string s] w fun e w' => e = .returned (.bool (PLex.whole s.data.toList)) ∧ w = w' := by
  obtain ⟨b, hb⟩ : ∃ b, PLex.whole s.data.toList = b := ⟨_, rfl⟩
  have hlen : s.data.toList.length = s.size := by simp
  have hh : s.data.toList.head? = some s[0] := by
    have := drop_at (s := s) (j := 0) h0
    rw [List.drop_zero] at this
    rw [this]; rfl
  by_cases h10 : s.size < 10
  case neg =>
    have HF : Hid (b = false) := Lib.hid (by rw [← hb]; unfold PLex.whole; rw [hlen, decide_eq_false h10]; simp)
    rw [hb]
    have g : (9 : Int) < (s.size : Int) := by omega
    clear hb hlen hh h10
    go_enter Tryd.func43, Tryd.ntmps43
    go_wp2
    go_ret
    exact ⟨by rw [HF.out]; rfl, rfl⟩
  case pos =>
    have g : ¬ (9 : Int) < (s.size : Int) := by omega
    by_cases hz : s.size ≠ 1 ∧ s[0] = 48
    · have HF : Hid (b = false) := Lib.hid (by rw [← hb]; unfold PLex.whole; rw [hlen, hh, hz.2]; simp [hz.1])
      rw [hb]
      have g1 : (1 : Int) < (s.size : Int) := by omega
      have g2 := byte_eq (n := 48) rfl hz.2
      clear hb hlen hh h10 hz
      go_enter Tryd.func43, Tryd.ntmps43
      go_wp2
      go_ret
      exact ⟨by rw [HF.out]; rfl, rfl⟩
    · have HW : Hid (b = s.data.toList.all PLex.isDig) := Lib.hid (by
        rw [← hb]; unfold PLex.whole; rw [hlen, hh, decide_eq_true h0, decide_eq_true h10]
        by_cases h1 : s.size = 1
        · simp [h1]
        · have : s[0] ≠ 48 := fun k => hz ⟨h1, k⟩
          simp [this])
      rw [hb]
      clear hb hlen hh
      have HI : Hid (∀ c w, Calls Tryd.prog 23 #[.int .u8 (UInt8.toNat c)] w fun e w' => e = .returned (.bool (PLex.isDig c)) ∧ w = w') := Lib.hid isdigit_any
      have key : Hid (∀ (Q : Prop), (¬ (1 : Int) < (s.size : Int) → Q) → ((1 : Int) < (s.size : Int) → (((s[0].toNat : Nat) : Int) == 48) = false → Q) → Q) := Lib.hid (fun Q q1 q2 => by
        by_cases h1 : s.size = 1
        · exact q1 (by omega)
        · exact q2 (by omega) (byte_ne rfl fun k => hz ⟨h1, k⟩))
      clear hz h10
      go_enter Tryd.func43, Tryd.ntmps43
      go_upto_region 1 with fail
      go_cut [16] (fun t wx => t = .bool false ∧ w = wx)
      case first =>
        refine key.out _ (fun g1 => ?_) (fun g1 g2 => ?_)
        · go_wp2_with fail
          go_meet
          exact ⟨rfl, rfl⟩
        · go_wp2_with fail
          go_meet
          exact ⟨rfl, rfl⟩
      case rest =>
        obtain ⟨rfl, rfl⟩ := hcut
        go_wp2_with fail
        go_loop [19] (fun i => ∃ (j : Nat), j ≤ s.size ∧ i = .int .i64 j ∧ Hid (digsTo s j)) (fun i => s.size - (intOf i).toNat)
        case atStart => exact ⟨0, Nat.zero_le _, rfl, (show Hid _ from fun i _ hi => by omega)⟩
        case round =>
          obtain ⟨j, hj, rfl, HD⟩ := hrel
          by_cases hlt : j < s.size
          · have HC := Lib.hid (HI.out s[j])
            obtain ⟨q, hq⟩ : ∃ q, PLex.isDig s[j] = q := ⟨_, rfl⟩
            rw [hq] at HC
            cases q with
            | true =>
              have HD2 : Hid (digsTo s (j + 1)) := Lib.hid (fun i h hi => by
                by_cases e : i = j
                · subst e; exact hq
                · exact HD.out i h (by omega))
              clear hq
              go_wp2_with fail
              refine (HC.out _).mono ?_
              rintro _ _ ⟨rfl, rfl⟩
              go_wp2_with fail
              go_round
              case rel => exact ⟨j + 1, by omega, by go_num, HD2⟩
              case measure => simp [intOf]; omega
            | false =>
              have HF : Hid (b = false) := Lib.hid (by rw [HW.out]; exact not_digs hlt hq)
              clear hq
              go_wp2_with fail
              refine (HC.out _).mono ?_
              rintro _ _ ⟨rfl, rfl⟩
              go_wp2_with fail
              go_ret
              exact ⟨by rw [HF.out]; rfl, rfl⟩
          · obtain rfl : j = s.size := by omega
            have HF : Hid (b = true) := Lib.hid (by rw [HW.out]; exact all_digs HD.out)
            go_wp2_with fail
            go_ret
            exact ⟨by rw [HF.out]; rfl, rfl⟩

set_option maxHeartbeats 1600000 in
theorem numkind_any (s : ByteArray) (w : World) (h0 : 0 < s.size) (hs : s.size ≤ 9223372036854775807) :
    Calls Tryd.prog 26 #[.string s] w fun e w' => e = .returned (.int .i64 (PLex.kindOf s.data.toList : Nat)) ∧ w = w' := by
  obtain ⟨k, hk⟩ : ∃ k, PLex.kindOf s.data.toList = k := ⟨_, rfl⟩
  have HK := Lib.hid hk
  rw [hk]
  clear hk
  have H1 := Lib.hid (fun w => iswhole_any s w h0 hs)
  have H2 := Lib.hid (fun w => parse_any s w hs)
  have H3 := Lib.hid (fun w => rparse_any s w hs)
  obtain ⟨b, hb⟩ : ∃ b, PLex.whole s.data.toList = b := ⟨_, rfl⟩
  rw [hb] at H1
  cases b with
  | true =>
    have HF : Hid (k = 2) := Lib.hid (by rw [← HK.out]; exact PLex.kind_whole hb)
    clear hb
    go_enter Tryd.func26, Tryd.ntmps26
    go_wp2_with fail
    refine (H1.out _).mono ?_
    rintro _ _ ⟨rfl, rfl⟩
    go_wp2_with fail
    go_ret
    exact ⟨by rw [HF.out]; rfl, rfl⟩
  | false =>
    have HF := Lib.hid (PLex.kind_other hb)
    clear hb
    obtain ⟨x, c, hc, he⟩ : ∃ (y : Int) (c : Bool), c = (PMoney.parse s.data.toList).isSome ∧ parseV s.data.toList = .tuple #[.int .i64 y, .bool c] := by
      cases h : PMoney.parse s.data.toList with
      | none => exact ⟨0, false, rfl, parseV_none h⟩
      | some n => exact ⟨n, true, rfl, parseV_some h⟩
    obtain ⟨y, d, hd, he2⟩ : ∃ (y : Int) (c : Bool), c = (PRate.parse s.data.toList).isSome ∧ rparseV s.data.toList = .tuple #[.int .i64 y, .bool c] := by
      cases h : PRate.parse s.data.toList with
      | none => exact ⟨0, false, rfl, rparseV_none h⟩
      | some n => exact ⟨n, true, rfl, rparseV_some h⟩
    rw [he] at H2
    rw [he2] at H3
    have HC := Lib.hid hc
    have HD := Lib.hid hd
    clear hc hd he he2
    cases c with
    | true =>
      have HG : Hid (k = 3) := Lib.hid (by rw [← HK.out, HF.out, ← HC.out]; rfl)
      go_enter Tryd.func26, Tryd.ntmps26
      go_wp2_with fail
      refine (H1.out _).mono ?_
      rintro _ _ ⟨rfl, rfl⟩
      go_wp2_with fail
      refine (H2.out _).mono ?_
      rintro _ _ ⟨rfl, rfl⟩
      go_wp2_with fail
      go_ret
      exact ⟨by rw [HG.out]; rfl, rfl⟩
    | false =>
      cases d with
      | true =>
        have HG : Hid (k = 4) := Lib.hid (by rw [← HK.out, HF.out, ← HC.out, ← HD.out]; rfl)
        go_enter Tryd.func26, Tryd.ntmps26
        go_wp2_with fail
        refine (H1.out _).mono ?_
        rintro _ _ ⟨rfl, rfl⟩
        go_wp2_with fail
        refine (H2.out _).mono ?_
        rintro _ _ ⟨rfl, rfl⟩
        go_wp2_with fail
        refine (H3.out _).mono ?_
        rintro _ _ ⟨rfl, rfl⟩
        go_wp2_with fail
        go_ret
        exact ⟨by rw [HG.out]; rfl, rfl⟩
      | false =>
        have HG : Hid (k = 0) := Lib.hid (by rw [← HK.out, HF.out, ← HC.out, ← HD.out]; rfl)
        go_enter Tryd.func26, Tryd.ntmps26
        go_wp2_with fail
        refine (H1.out _).mono ?_
        rintro _ _ ⟨rfl, rfl⟩
        go_wp2_with fail
        refine (H2.out _).mono ?_
        rintro _ _ ⟨rfl, rfl⟩
        go_wp2_with fail
        refine (H3.out _).mono ?_
        rintro _ _ ⟨rfl, rfl⟩
        go_wp2_with fail
        go_ret
        exact ⟨by rw [HG.out]; rfl, rfl⟩
end Go.Proofs.YtpakepapjnakgaaDoor
