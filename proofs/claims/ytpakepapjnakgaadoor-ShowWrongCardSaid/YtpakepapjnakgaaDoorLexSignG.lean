/-
  What the landed lexer's signLength answers: how many bytes the sign has with which a text begins.
-/
import Derived.Test.YtpakepapjnakgaaDoorLexBitsG

namespace PLex
/-- How many bytes the sign has with which a text begins; 0: it begins with none. -/
def signLen : List UInt8 → Nat
  | [] => 0
  | c :: r => if isSgn c = true then (if two c r = true then 2 else 1) else 0
theorem two_sgn {c : UInt8} {r : List UInt8} (h : two c r = true) : isSgn c = true := by
  cases r with
  | nil => cases h
  | cons d r =>
    simp only [two, Bool.or_eq_true, Bool.and_eq_true, beq_iff_eq] at h
    rcases h with ⟨rfl, _⟩ | ⟨rfl, _⟩ <;> rfl
theorem two_prefix (c : UInt8) (r : List UInt8) : two c r = (Go.Lib.hasPrefix (c :: r) [60, 61] || (Go.Lib.hasPrefix (c :: r) [62, 61] || Go.Lib.hasPrefix (c :: r) [60, 62])) := by
  cases r with
  | nil => simp [two, Go.Lib.hasPrefix, List.isPrefixOf]
  | cons d r =>
    simp only [two, Go.Lib.hasPrefix, List.isPrefixOf, Bool.and_true]
    have e : ∀ x y : UInt8, (x == y) = (y == x) := fun x y => by rw [Bool.eq_iff_iff, beq_iff_eq, beq_iff_eq]; exact eq_comm
    rw [e 60 c, e 62 c, e 61 d, e 62 d]
    cases (c == 60) <;> cases (c == 62) <;> cases (d == 61) <;> cases (d == 62) <;> rfl
theorem sgn_index (c : UInt8) : isSgn c = decide ((0 : Int) ≤ Go.Lib.indexByte [61, 60, 62, 43, 45, 42, 40, 41, 44, 59] c) := by
  have h : ∀ n : Fin 256, isSgn (UInt8.ofNat n.val) = decide ((0 : Int) ≤ Go.Lib.indexByte [61, 60, 62, 43, 45, 42, 40, 41, 44, 59] (UInt8.ofNat n.val)) := by decide +kernel
  have := h ⟨c.toNat, c.toNat_lt⟩
  simpa using this
end PLex
namespace Go.Proofs.YtpakepapjnakgaaDoor
open Go.RowKit

set_option maxHeartbeats 1600000 in
theorem signlen_core (s : ByteArray) (hs : 0 < s.size) (p1 p2 p3 : Bool) (k : Int) (w : World)
    (h1 : ∀ w, Calls Tryd.prog 41 #[.string s, .string { data := #[60, 61] }] w fun e w' => e = .returned (.bool p1) ∧ w' = w)
    (h2 : ∀ w, Calls Tryd.prog 41 #[.string s, .string { data := #[62, 61] }] w fun e w' => e = .returned (.bool p2) ∧ w' = w)
    (h3 : ∀ w, Calls Tryd.prog 41 #[.string s, .string { data := #[60, 62] }] w fun e w' => e = .returned (.bool p3) ∧ w' = w)
    (h4 : ∀ w, Calls Tryd.prog 42 #[.string { data := #[61, 60, 62, 43, 45, 42, 40, 41, 44, 59] }, .int .u8 s[0].toNat] w fun e w' => e = .returned (.int .i64 k) ∧ w' = w) :
    Calls Tryd.prog 24 #[.string s] w fun e w' => e = .returned (.int .i64 ((if (p1 || (p2 || p3)) = true then 2 else if 0 ≤ k then 1 else 0 : Nat) : Int)) ∧ w = w' := by
  have H1 := Lib.hid h1; have H2 := Lib.hid h2; have H3 := Lib.hid h3; have H4 := Lib.hid h4
  clear h1 h2 h3 h4
  have i0 : ∀ w, (Instr.index 97 (.agg #[.string { data := #[60, 61] }, .string { data := #[62, 61] }, .string { data := #[60, 62] }]) (.int .i64 0)).run Tryd.prog w = .ok (.string { data := #[60, 61] }) w := fun _ => by kernel_rfl
  have i1 : ∀ w, (Instr.index 97 (.agg #[.string { data := #[60, 61] }, .string { data := #[62, 61] }, .string { data := #[60, 62] }]) (.int .i64 1)).run Tryd.prog w = .ok (.string { data := #[62, 61] }) w := fun _ => by kernel_rfl
  have i2 : ∀ w, (Instr.index 97 (.agg #[.string { data := #[60, 61] }, .string { data := #[62, 61] }, .string { data := #[60, 62] }]) (.int .i64 2)).run Tryd.prog w = .ok (.string { data := #[60, 62] }) w := fun _ => by kernel_rfl
  go_enter Tryd.func24, Tryd.ntmps24
  go_wp2_with fail
  go_loop [6] (fun i => (i = .int .i64 0) ∨ (i = .int .i64 1 ∧ p1 = false) ∨ (i = .int .i64 2 ∧ p1 = false ∧ p2 = false) ∨ (i = .int .i64 3 ∧ p1 = false ∧ p2 = false ∧ p3 = false)) (fun i => 3 - (intOf i).toNat)
  case atStart => exact .inl rfl
  case round =>
    rcases hrel with rfl | ⟨rfl, rfl⟩ | ⟨rfl, rfl, rfl⟩ | ⟨rfl, rfl, rfl, rfl⟩
    · cases p1 with
      | true =>
        go_wp2_with fail
        refine (H1.out _).mono ?_
        rintro _ _ ⟨rfl, rfl⟩
        go_wp2_with fail
        go_ret
        exact ⟨rfl, rfl⟩
      | false =>
        go_wp2_with fail
        refine (H1.out _).mono ?_
        rintro _ _ ⟨rfl, rfl⟩
        go_wp2_with fail
        exact ⟨by simp, by decide⟩
    · cases p2 with
      | true =>
        go_wp2_with fail
        refine (H2.out _).mono ?_
        rintro _ _ ⟨rfl, rfl⟩
        go_wp2_with fail
        go_ret
        exact ⟨rfl, rfl⟩
      | false =>
        go_wp2_with fail
        refine (H2.out _).mono ?_
        rintro _ _ ⟨rfl, rfl⟩
        go_wp2_with fail
        exact ⟨by simp, by decide⟩
    · cases p3 with
      | true =>
        go_wp2_with fail
        refine (H3.out _).mono ?_
        rintro _ _ ⟨rfl, rfl⟩
        go_wp2_with fail
        go_ret
        exact ⟨rfl, rfl⟩
      | false =>
        go_wp2_with fail
        refine (H3.out _).mono ?_
        rintro _ _ ⟨rfl, rfl⟩
        go_wp2_with fail
        exact ⟨by simp, by decide⟩
    · by_cases hk : 0 ≤ k
      · go_wp2_with fail
        refine (H4.out _).mono ?_
        rintro _ _ ⟨rfl, rfl⟩
        go_wp2_with fail
        go_ret
        exact ⟨by simp, rfl⟩
      · go_wp2_with fail
        refine (H4.out _).mono ?_
        rintro _ _ ⟨rfl, rfl⟩
        go_wp2_with fail
        go_ret
        exact ⟨by simp, rfl⟩
theorem signlen_any (s : ByteArray) (hs : 0 < s.size) (w : World) : Calls Tryd.prog 24 #[.string s] w fun e w' => e = .returned (.int .i64 (PLex.signLen s.data.toList : Nat)) ∧ w = w' := by
  have h := signlen_core s hs _ _ _ _ w (fun w => Tryd.strings_HasPrefix s { data := #[60, 61] } w) (fun w => Tryd.strings_HasPrefix s { data := #[62, 61] } w) (fun w => Tryd.strings_HasPrefix s { data := #[60, 62] } w) (fun w => Tryd.strings_IndexByte { data := #[61, 60, 62, 43, 45, 42, 40, 41, 44, 59] } s[0].toNat w)
  refine h.mono ?_
  rintro _ _ ⟨rfl, rfl⟩
  refine ⟨?_, rfl⟩
  have e0 : s.data.toList = s[0] :: s.data.toList.drop 1 := by
    have := drop_at (s := s) (j := 0) hs
    rw [List.drop_zero] at this; exact this
  have e1 : ((s[0].toNat : Int).toNat).toUInt8 = s[0] := by simp
  have e2 : PLex.isSgn s[0] = decide ((0 : Int) ≤ Lib.indexByte [61, 60, 62, 43, 45, 42, 40, 41, 44, 59] s[0]) := PLex.sgn_index _
  have e3 := PLex.two_prefix s[0] (s.data.toList.drop 1)
  rw [← e0] at e3
  congr 2
  rw [e1]
  show _ = ((PLex.signLen s.data.toList : Nat) : Int)
  conv => rhs; rw [e0]
  unfold PLex.signLen
  simp only []
  rw [← e3]
  by_cases ht : PLex.two s[0] (s.data.toList.drop 1) = true
  · rw [if_pos ht, if_pos (PLex.two_sgn ht), if_pos ht]
  · rw [if_neg ht, if_neg ht, e2]
    by_cases hk : (0 : Int) ≤ Lib.indexByte [61, 60, 62, 43, 45, 42, 40, 41, 44, 59] s[0]
    · rw [if_pos hk, if_pos (decide_eq_true hk)]
    · rw [if_neg hk, if_neg (by rw [decide_eq_false hk]; exact Bool.false_ne_true)]
end Go.Proofs.YtpakepapjnakgaaDoor
