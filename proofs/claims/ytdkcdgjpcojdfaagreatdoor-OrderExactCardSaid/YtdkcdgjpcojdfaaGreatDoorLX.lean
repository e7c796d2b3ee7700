/-
  What the landed lexer's small functions answer: letters, digits, the kinds of words and numbers, the length of a sign.
  What the landed lexer's isWhole and numberKind answer of a run of digits, dots and %.
  What the landed lexer's signLength answers: how many bytes the sign has with which a text begins.
-/
import Derived.Test.YtdkcdgjpcojdfaaGreatDoorPM
import Derived.Test.YtdkcdgjpcojdfaaGreatDoorMP
import Derived.Lib.IndexLaws
import Derived.Test.YtdkcdgjpcojdfaaGreatDoorTK

namespace Go.Proofs.YtdkcdgjpcojdfaaGreatDoor
open Go.RowKit

theorem isletter_any (c : UInt8) (w : World) : Calls Tryz.prog 45 #[.int .u8 c.toNat] w fun e w' => e = .returned (.bool (PLex.isLet c)) ∧ w = w' := by
  obtain ⟨b, hb⟩ : ∃ b, PLex.isLet c = b := ⟨_, rfl⟩
  have HB := Lib.hid hb
  rw [hb]
  unfold PLex.isLet at hb
  by_cases h1 : 97 ≤ c.toNat
  · by_cases h2 : c.toNat ≤ 122
    · have e : Hid (b = true) := Lib.hid (by rw [← hb]; simp [h1, h2])
      clear hb
      have g1 : (97 : Int) ≤ (c.toNat : Int) := by omega
      have g2 : (c.toNat : Int) ≤ 122 := by omega
      go_enter Tryz.func45, Tryz.ntmps45
      go_wp2
      go_ret
      exact ⟨by rw [e.out]; rfl, rfl⟩
    · have e : Hid (b = false) := Lib.hid (by rw [← hb]; simp [h2])
      clear hb
      have g1 : (97 : Int) ≤ (c.toNat : Int) := by omega
      have g2 : ¬ (c.toNat : Int) ≤ 122 := by omega
      go_enter Tryz.func45, Tryz.ntmps45
      go_wp2
      go_ret
      exact ⟨by rw [e.out]; rfl, rfl⟩
  · have e : Hid (b = false) := Lib.hid (by rw [← hb]; simp [h1])
    clear hb
    have g1 : ¬ (97 : Int) ≤ (c.toNat : Int) := by omega
    go_enter Tryz.func45, Tryz.ntmps45
    go_wp2
    go_ret
    exact ⟨by rw [e.out]; rfl, rfl⟩
theorem isdigit_any (c : UInt8) (w : World) : Calls Tryz.prog 46 #[.int .u8 c.toNat] w fun e w' => e = .returned (.bool (PLex.isDig c)) ∧ w = w' := by
  obtain ⟨b, hb⟩ : ∃ b, PLex.isDig c = b := ⟨_, rfl⟩
  have HB := Lib.hid hb
  rw [hb]
  unfold PLex.isDig at hb
  by_cases h1 : 48 ≤ c.toNat
  · by_cases h2 : c.toNat ≤ 57
    · have e : Hid (b = true) := Lib.hid (by rw [← hb]; simp [h1, h2])
      clear hb
      have g1 : (48 : Int) ≤ (c.toNat : Int) := by omega
      have g2 : (c.toNat : Int) ≤ 57 := by omega
      go_enter Tryz.func46, Tryz.ntmps46
      go_wp2
      go_ret
      exact ⟨by rw [e.out]; rfl, rfl⟩
    · have e : Hid (b = false) := Lib.hid (by rw [← hb]; simp [h2])
      clear hb
      have g1 : (48 : Int) ≤ (c.toNat : Int) := by omega
      have g2 : ¬ (c.toNat : Int) ≤ 57 := by omega
      go_enter Tryz.func46, Tryz.ntmps46
      go_wp2
      go_ret
      exact ⟨by rw [e.out]; rfl, rfl⟩
  · have e : Hid (b = false) := Lib.hid (by rw [← hb]; simp [h1])
    clear hb
    have g1 : ¬ (48 : Int) ≤ (c.toNat : Int) := by omega
    go_enter Tryz.func46, Tryz.ntmps46
    go_wp2
    go_ret
    exact ⟨by rw [e.out]; rfl, rfl⟩
theorem wordkind_any (s : ByteArray) (w : World) : Calls Tryz.prog 48 #[.string s] w fun e w' => e = .returned (.int .i64 ((if s.size < 13 then 1 else 0 : Nat) : Int)) ∧ w = w' := by
  by_cases h : s.size < 13
  · rw [if_pos h]
    have g : ¬ (12 : Int) < (s.size : Int) := by omega
    go_enter Tryz.func48, Tryz.ntmps48
    go_wp2
    go_ret
    exact ⟨rfl, rfl⟩
  · rw [if_neg h]
    have g : (12 : Int) < (s.size : Int) := by omega
    go_enter Tryz.func48, Tryz.ntmps48
    go_wp2
    go_ret
    exact ⟨rfl, rfl⟩
set_option maxHeartbeats 800000 in
theorem clone_any (s : ByteArray) (w : World) (hlim : s.size ≤ 281474976710656) : Calls Tryz.prog 50 #[.string s] w fun e w' => e = .returned (.string s) ∧ Below w.heap.size w w' := by
  have H := Lib.hid (fun w => Tryz.stringslite_Clone s w hlim)
  go_enter Tryz.func50, Tryz.ntmps50
  go_wp2_with fail
  refine (H.out _).mono ?_
  rintro _ w1 ⟨rfl, hb⟩
  go_wp2_with fail
  go_ret
  exact ⟨rfl, hb⟩
end Go.Proofs.YtdkcdgjpcojdfaaGreatDoor

namespace PLex
open Go
theorem text_dot (n : Int) : (46 : UInt8) ∈ PMoney.text n := by
  unfold PMoney.text PMoney.textNat
  split <;> simp
theorem not_dig {l : List UInt8} {c : UInt8} (h : c ∈ l) (hc : isDig c = false) : ¬ l.all isDig = true := by
  intro k; rw [List.all_eq_true] at k; have := k c h; rw [hc] at this; cases this
theorem whole_all {l : List UInt8} (h : whole l = true) : l.all isDig = true := by
  unfold whole at h; rw [Bool.and_eq_true] at h; exact h.1
theorem whole_money {l : List UInt8} (h : whole l = true) : PMoney.parse l = none := by
  cases hp : PMoney.parse l with
  | none => rfl
  | some n =>
    have := (PMoney.parse_some hp).1
    exact absurd (whole_all h) (not_dig (c := 46) (by rw [← this]; exact text_dot n) rfl)
theorem whole_rate {l : List UInt8} (h : whole l = true) : PRate.parse l = none := by
  cases hp : PRate.parse l with
  | none => rfl
  | some n =>
    have := ((PRate.parse_iff l n).1 hp).2.2
    exact absurd (whole_all h) (not_dig (c := 37) (by rw [← this]; unfold PRate.text; simp) rfl)
theorem kind_whole {l : List UInt8} (h : whole l = true) : kindOf l = 2 := by
  unfold kindOf; rw [whole_money h, whole_rate h, h]; rfl
theorem kind_other {l : List UInt8} (h : whole l = false) : kindOf l = if (PMoney.parse l).isSome = true then 3 else if (PRate.parse l).isSome = true then 4 else 0 := by
  unfold kindOf; rw [h]; rfl
end PLex
namespace Go.Proofs.YtdkcdgjpcojdfaaGreatDoor
open Go.RowKit

set_option maxHeartbeats 1600000 in
theorem iswhole_any (s : ByteArray) (w : World) (h0 : 0 < s.size) (hs : s.size ≤ 9223372036854775807) :
    Calls Tryz.prog 76 #[.string s] w fun e w' => e = .returned (.bool (PLex.whole s.data.toList)) ∧ w = w' := by
  obtain ⟨b, hb⟩ : ∃ b, PLex.whole s.data.toList = b := ⟨_, rfl⟩
  have hlen : s.data.toList.length = s.size := by simp
  have hh : s.data.toList.head? = some s[0] := by
    have := drop_at (s := s) (j := 0) h0
    rw [List.drop_zero] at this
    rw [this]; rfl
  by_cases h10 : s.size < 10
  case neg =>
    have HF : Hid (b = false) := Lib.hid (by rw [← hb]; unfold PLex.whole; rw [hlen, decide_eq_false h10]; simp)
    rw [hb]
    have g : (9 : Int) < (s.size : Int) := by omega
    clear hb hlen hh h10
    go_enter Tryz.func76, Tryz.ntmps76
    go_wp2
    go_ret
    exact ⟨by rw [HF.out]; rfl, rfl⟩
  case pos =>
    have g : ¬ (9 : Int) < (s.size : Int) := by omega
    by_cases hz : s.size ≠ 1 ∧ s[0] = 48
    · have HF : Hid (b = false) := Lib.hid (by rw [← hb]; unfold PLex.whole; rw [hlen, hh, hz.2]; simp [hz.1])
      rw [hb]
      have g1 : (1 : Int) < (s.size : Int) := by omega
      have g2 := byte_eq (n := 48) rfl hz.2
      clear hb hlen hh h10 hz
      go_enter Tryz.func76, Tryz.ntmps76
      go_wp2
      go_ret
      exact ⟨by rw [HF.out]; rfl, rfl⟩
    · have HW : Hid (b = s.data.toList.all PLex.isDig) := Lib.hid (by
        rw [← hb]; unfold PLex.whole; rw [hlen, hh, decide_eq_true h0, decide_eq_true h10]
        by_cases h1 : s.size = 1
        · simp [h1]
        · have : s[0] ≠ 48 := fun k => hz ⟨h1, k⟩
          simp [this])
      rw [hb]
      clear hb hlen hh
      have HI : Hid (∀ c w, Calls Tryz.prog 46 #[.int .u8 (UInt8.toNat c)] w fun e w' => e = .returned (.bool (PLex.isDig c)) ∧ w = w') := Lib.hid isdigit_any
      have key : Hid (∀ (Q : Prop), (¬ (1 : Int) < (s.size : Int) → Q) → ((1 : Int) < (s.size : Int) → (((s[0].toNat : Nat) : Int) == 48) = false → Q) → Q) := Lib.hid (fun Q q1 q2 => by
        by_cases h1 : s.size = 1
        · exact q1 (by omega)
        · exact q2 (by omega) (byte_ne rfl fun k => hz ⟨h1, k⟩))
      clear hz h10
      go_enter Tryz.func76, Tryz.ntmps76
      go_upto_region 1 with fail
      go_cut [16] (fun t wx => t = .bool false ∧ w = wx)
      case first =>
        refine key.out _ (fun g1 => ?_) (fun g1 g2 => ?_)
        · go_wp2_with fail
          go_meet
          exact ⟨rfl, rfl⟩
        · go_wp2_with fail
          go_meet
          exact ⟨rfl, rfl⟩
      case rest =>
        obtain ⟨rfl, rfl⟩ := hcut
        go_wp2_with fail
        go_loop [19] (fun i => ∃ (j : Nat), j ≤ s.size ∧ i = .int .i64 j ∧ Hid (digsTo s j)) (fun i => s.size - (intOf i).toNat)
        case atStart => exact ⟨0, Nat.zero_le _, rfl, (show Hid _ from fun i _ hi => by omega)⟩
        case round =>
          obtain ⟨j, hj, rfl, HD⟩ := hrel
          by_cases hlt : j < s.size
          · have HC := Lib.hid (HI.out s[j])
            obtain ⟨q, hq⟩ : ∃ q, PLex.isDig s[j] = q := ⟨_, rfl⟩
            rw [hq] at HC
            cases q with
            | true =>
              have HD2 : Hid (digsTo s (j + 1)) := Lib.hid (fun i h hi => by
                by_cases e : i = j
                · subst e; exact hq
                · exact HD.out i h (by omega))
              clear hq
              go_wp2_with fail
              refine (HC.out _).mono ?_
              rintro _ _ ⟨rfl, rfl⟩
              go_wp2_with fail
              go_round
              case rel => exact ⟨j + 1, by omega, by go_num, HD2⟩
              case measure => simp [intOf]; omega
            | false =>
              have HF : Hid (b = false) := Lib.hid (by rw [HW.out]; exact not_digs hlt hq)
              clear hq
              go_wp2_with fail
              refine (HC.out _).mono ?_
              rintro _ _ ⟨rfl, rfl⟩
              go_wp2_with fail
              go_ret
              exact ⟨by rw [HF.out]; rfl, rfl⟩
          · obtain rfl : j = s.size := by omega
            have HF : Hid (b = true) := Lib.hid (by rw [HW.out]; exact all_digs HD.out)
            go_wp2_with fail
            go_ret
            exact ⟨by rw [HF.out]; rfl, rfl⟩

set_option maxHeartbeats 1600000 in
theorem numkind_any (s : ByteArray) (w : World) (h0 : 0 < s.size) (hs : s.size ≤ 9223372036854775807) :
    Calls Tryz.prog 49 #[.string s] w fun e w' => e = .returned (.int .i64 (PLex.kindOf s.data.toList : Nat)) ∧ w = w' := by
  obtain ⟨k, hk⟩ : ∃ k, PLex.kindOf s.data.toList = k := ⟨_, rfl⟩
  have HK := Lib.hid hk
  rw [hk]
  clear hk
  have H1 := Lib.hid (fun w => iswhole_any s w h0 hs)
  have H2 := Lib.hid (fun w => parse_any s w hs)
  have H3 := Lib.hid (fun w => rparse_any s w hs)
  obtain ⟨b, hb⟩ : ∃ b, PLex.whole s.data.toList = b := ⟨_, rfl⟩
  rw [hb] at H1
  cases b with
  | true =>
    have HF : Hid (k = 2) := Lib.hid (by rw [← HK.out]; exact PLex.kind_whole hb)
    clear hb
    go_enter Tryz.func49, Tryz.ntmps49
    go_wp2_with fail
    refine (H1.out _).mono ?_
    rintro _ _ ⟨rfl, rfl⟩
    go_wp2_with fail
    go_ret
    exact ⟨by rw [HF.out]; rfl, rfl⟩
  | false =>
    have HF := Lib.hid (PLex.kind_other hb)
    clear hb
    obtain ⟨x, c, hc, he⟩ : ∃ (y : Int) (c : Bool), c = (PMoney.parse s.data.toList).isSome ∧ parseV s.data.toList = .tuple #[.int .i64 y, .bool c] := by
      cases h : PMoney.parse s.data.toList with
      | none => exact ⟨0, false, rfl, parseV_none h⟩
      | some n => exact ⟨n, true, rfl, parseV_some h⟩
    obtain ⟨y, d, hd, he2⟩ : ∃ (y : Int) (c : Bool), c = (PRate.parse s.data.toList).isSome ∧ rparseV s.data.toList = .tuple #[.int .i64 y, .bool c] := by
      cases h : PRate.parse s.data.toList with
      | none => exact ⟨0, false, rfl, rparseV_none h⟩
      | some n => exact ⟨n, true, rfl, rparseV_some h⟩
    rw [he] at H2
    rw [he2] at H3
    have HC := Lib.hid hc
    have HD := Lib.hid hd
    clear hc hd he he2
    cases c with
    | true =>
      have HG : Hid (k = 3) := Lib.hid (by rw [← HK.out, HF.out, ← HC.out]; rfl)
      go_enter Tryz.func49, Tryz.ntmps49
      go_wp2_with fail
      refine (H1.out _).mono ?_
      rintro _ _ ⟨rfl, rfl⟩
      go_wp2_with fail
      refine (H2.out _).mono ?_
      rintro _ _ ⟨rfl, rfl⟩
      go_wp2_with fail
      go_ret
      exact ⟨by rw [HG.out]; rfl, rfl⟩
    | false =>
      cases d with
      | true =>
        have HG : Hid (k = 4) := Lib.hid (by rw [← HK.out, HF.out, ← HC.out, ← HD.out]; rfl)
        go_enter Tryz.func49, Tryz.ntmps49
        go_wp2_with fail
        refine (H1.out _).mono ?_
        rintro _ _ ⟨rfl, rfl⟩
        go_wp2_with fail
        refine (H2.out _).mono ?_
        rintro _ _ ⟨rfl, rfl⟩
        go_wp2_with fail
        refine (H3.out _).mono ?_
        rintro _ _ ⟨rfl, rfl⟩
        go_wp2_with fail
        go_ret
        exact ⟨by rw [HG.out]; rfl, rfl⟩
      | false =>
        have HG : Hid (k = 0) := Lib.hid (by rw [← HK.out, HF.out, ← HC.out, ← HD.out]; rfl)
        go_enter Tryz.func49, Tryz.ntmps49
        go_wp2_with fail
        refine (H1.out _).mono ?_
        rintro _ _ ⟨rfl, rfl⟩
        go_wp2_with fail
        refine (H2.out _).mono ?_
        rintro _ _ ⟨rfl, rfl⟩
        go_wp2_with fail
        refine (H3.out _).mono ?_
        rintro _ _ ⟨rfl, rfl⟩
        go_wp2_with fail
        go_ret
        exact ⟨by rw [HG.out]; rfl, rfl⟩
end Go.Proofs.YtdkcdgjpcojdfaaGreatDoor

namespace PLex
def signLen : List UInt8 → Nat
  | [] => 0
  | c :: r => if isSgn c = true then (if two c r = true then 2 else 1) else 0
theorem two_sgn {c : UInt8} {r : List UInt8} (h : two c r = true) : isSgn c = true := by
  cases r with
  | nil => cases h
  | cons d r =>
    simp only [two, Bool.or_eq_true, Bool.and_eq_true, beq_iff_eq] at h
    rcases h with ⟨rfl, _⟩ | ⟨rfl, _⟩ <;> rfl
theorem two_prefix (c : UInt8) (r : List UInt8) : two c r = (Go.Lib.hasPrefix (c :: r) [60, 61] || (Go.Lib.hasPrefix (c :: r) [62, 61] || Go.Lib.hasPrefix (c :: r) [60, 62])) := by
  cases r with
  | nil => simp [two, Go.Lib.hasPrefix, List.isPrefixOf]
  | cons d r =>
    simp only [two, Go.Lib.hasPrefix, List.isPrefixOf, Bool.and_true]
    have e : ∀ x y : UInt8, (x == y) = (y == x) := fun x y => by rw [Bool.eq_iff_iff, beq_iff_eq, beq_iff_eq]; exact eq_comm
    rw [e 60 c, e 62 c, e 61 d, e 62 d]
    cases (c == 60) <;> cases (c == 62) <;> cases (d == 61) <;> cases (d == 62) <;> rfl
theorem sgn_index (c : UInt8) : isSgn c = decide ((0 : Int) ≤ Go.Lib.indexByte [61, 60, 62, 43, 45, 42, 40, 41, 44, 59] c) := by
  have h : ∀ n : Fin 256, isSgn (UInt8.ofNat n.val) = decide ((0 : Int) ≤ Go.Lib.indexByte [61, 60, 62, 43, 45, 42, 40, 41, 44, 59] (UInt8.ofNat n.val)) := by decide +kernel
  have := h ⟨c.toNat, c.toNat_lt⟩
  simpa using this
end PLex
namespace Go.Proofs.YtdkcdgjpcojdfaaGreatDoor
open Go.RowKit

set_option maxHeartbeats 1600000 in
theorem signlen_core (s : ByteArray) (hs : 0 < s.size) (p1 p2 p3 : Bool) (k : Int) (w : World)
    (h1 : ∀ w, Calls Tryz.prog 74 #[.string s, .string { data := #[60, 61] }] w fun e w' => e = .returned (.bool p1) ∧ w' = w)
    (h2 : ∀ w, Calls Tryz.prog 74 #[.string s, .string { data := #[62, 61] }] w fun e w' => e = .returned (.bool p2) ∧ w' = w)
    (h3 : ∀ w, Calls Tryz.prog 74 #[.string s, .string { data := #[60, 62] }] w fun e w' => e = .returned (.bool p3) ∧ w' = w)
    (h4 : ∀ w, Calls Tryz.prog 75 #[.string { data := #[61, 60, 62, 43, 45, 42, 40, 41, 44, 59] }, .int .u8 s[0].toNat] w fun e w' => e = .returned (.int .i64 k) ∧ w' = w) :
    Calls Tryz.prog 47 #[.string s] w fun e w' => e = .returned (.int .i64 ((if (p1 || (p2 || p3)) = true then 2 else if 0 ≤ k then 1 else 0 : Nat) : Int)) ∧ w = w' := by
  have H1 := Lib.hid h1; have H2 := Lib.hid h2; have H3 := Lib.hid h3; have H4 := Lib.hid h4
  clear h1 h2 h3 h4
  have i0 : ∀ w, (Instr.index 135 (.agg #[.string { data := #[60, 61] }, .string { data := #[62, 61] }, .string { data := #[60, 62] }]) (.int .i64 0)).run Tryz.prog w = .ok (.string { data := #[60, 61] }) w := fun _ => by kernel_rfl
  have i1 : ∀ w, (Instr.index 135 (.agg #[.string { data := #[60, 61] }, .string { data := #[62, 61] }, .string { data := #[60, 62] }]) (.int .i64 1)).run Tryz.prog w = .ok (.string { data := #[62, 61] }) w := fun _ => by kernel_rfl
  have i2 : ∀ w, (Instr.index 135 (.agg #[.string { data := #[60, 61] }, .string { data := #[62, 61] }, .string { data := #[60, 62] }]) (.int .i64 2)).run Tryz.prog w = .ok (.string { data := #[60, 62] }) w := fun _ => by kernel_rfl
  go_enter Tryz.func47, Tryz.ntmps47
  go_wp2_with fail
  go_loop [6] (fun i => (i = .int .i64 0) ∨ (i = .int .i64 1 ∧ p1 = false) ∨ (i = .int .i64 2 ∧ p1 = false ∧ p2 = false) ∨ (i = .int .i64 3 ∧ p1 = false ∧ p2 = false ∧ p3 = false)) (fun i => 3 - (intOf i).toNat)
  case atStart => exact .inl rfl
  case round =>
    rcases hrel with rfl | ⟨rfl, rfl⟩ | ⟨rfl, rfl, rfl⟩ | ⟨rfl, rfl, rfl, rfl⟩
    · cases p1 with
      | true =>
        go_wp2_with fail
        refine (H1.out _).mono ?_
        rintro _ _ ⟨rfl, rfl⟩
        go_wp2_with fail
        go_ret
        exact ⟨rfl, rfl⟩
      | false =>
        go_wp2_with fail
        refine (H1.out _).mono ?_
        rintro _ _ ⟨rfl, rfl⟩
        go_wp2_with fail
        exact ⟨by simp, by decide⟩
    · cases p2 with
      | true =>
        go_wp2_with fail
        refine (H2.out _).mono ?_
        rintro _ _ ⟨rfl, rfl⟩
        go_wp2_with fail
        go_ret
        exact ⟨rfl, rfl⟩
      | false =>
        go_wp2_with fail
        refine (H2.out _).mono ?_
        rintro _ _ ⟨rfl, rfl⟩
        go_wp2_with fail
        exact ⟨by simp, by decide⟩
    · cases p3 with
      | true =>
        go_wp2_with fail
        refine (H3.out _).mono ?_
        rintro _ _ ⟨rfl, rfl⟩
        go_wp2_with fail
        go_ret
        exact ⟨rfl, rfl⟩
      | false =>
        go_wp2_with fail
        refine (H3.out _).mono ?_
        rintro _ _ ⟨rfl, rfl⟩
        go_wp2_with fail
        exact ⟨by simp, by decide⟩
    · by_cases hk : 0 ≤ k
      · go_wp2_with fail
        refine (H4.out _).mono ?_
        rintro _ _ ⟨rfl, rfl⟩
        go_wp2_with fail
        go_ret
        exact ⟨by simp, rfl⟩
      · go_wp2_with fail
        refine (H4.out _).mono ?_
        rintro _ _ ⟨rfl, rfl⟩
        go_wp2_with fail
        go_ret
        exact ⟨by simp, rfl⟩
theorem signlen_any (s : ByteArray) (hs : 0 < s.size) (w : World) : Calls Tryz.prog 47 #[.string s] w fun e w' => e = .returned (.int .i64 (PLex.signLen s.data.toList : Nat)) ∧ w = w' := by
  have h := signlen_core s hs _ _ _ _ w (fun w => Tryz.strings_HasPrefix s { data := #[60, 61] } w) (fun w => Tryz.strings_HasPrefix s { data := #[62, 61] } w) (fun w => Tryz.strings_HasPrefix s { data := #[60, 62] } w) (fun w => Tryz.strings_IndexByte { data := #[61, 60, 62, 43, 45, 42, 40, 41, 44, 59] } s[0].toNat w)
  refine h.mono ?_
  rintro _ _ ⟨rfl, rfl⟩
  refine ⟨?_, rfl⟩
  have e0 : s.data.toList = s[0] :: s.data.toList.drop 1 := by
    have := drop_at (s := s) (j := 0) hs
    rw [List.drop_zero] at this; exact this
  have e1 : ((s[0].toNat : Int).toNat).toUInt8 = s[0] := by simp
  have e2 : PLex.isSgn s[0] = decide ((0 : Int) ≤ Lib.indexByte [61, 60, 62, 43, 45, 42, 40, 41, 44, 59] s[0]) := PLex.sgn_index _
  have e3 := PLex.two_prefix s[0] (s.data.toList.drop 1)
  rw [← e0] at e3
  congr 2
  rw [e1]
  show _ = ((PLex.signLen s.data.toList : Nat) : Int)
  conv => rhs; rw [e0]
  unfold PLex.signLen
  simp only []
  rw [← e3]
  by_cases ht : PLex.two s[0] (s.data.toList.drop 1) = true
  · rw [if_pos ht, if_pos (PLex.two_sgn ht), if_pos ht]
  · rw [if_neg ht, if_neg ht, e2]
    by_cases hk : (0 : Int) ≤ Lib.indexByte [61, 60, 62, 43, 45, 42, 40, 41, 44, 59] s[0]
    · rw [if_pos hk, if_pos (decide_eq_true hk)]
    · rw [if_neg hk, if_neg (by rw [decide_eq_false hk]; exact Bool.false_ne_true)]
end Go.Proofs.YtdkcdgjpcojdfaaGreatDoor
