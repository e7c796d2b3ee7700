/-
  What the landed lexer's small functions answer: letters, digits, the kinds of words and numbers, the length of a sign.
-/
import Derived.Test.YtpakepapjnakgaaDoorPM
import Derived.Test.YtpakepapjnakgaaDoorRateParseG
import Derived.Test.YtpakepapjnakgaaDoorMoneyParseG
import Derived.Lib.IndexLaws

namespace Go.Proofs.YtpakepapjnakgaaDoor
open Go.RowKit

theorem isletter_any (c : UInt8) (w : World) : Calls Tryd.prog 22 #[.int .u8 c.toNat] w fun e w' => e = .returned (.bool (PLex.isLet c)) ∧ w = w' := by
  obtain ⟨b, hb⟩ : ∃ b, PLex.isLet c = b := ⟨_, rfl⟩
  have HB := Lib.hid hb
  rw [hb]
  unfold PLex.isLet at hb
  by_cases h1 : 97 ≤ c.toNat
  · by_cases h2 : c.toNat ≤ 122
    · have e : Hid (b = true) := Lib.hid (by rw [← hb]; simp [h1, h2])
      clear hb
      have g1 : (97 : Int) ≤ (c.toNat : Int) := by omega
      have g2 : (c.toNat : Int) ≤ 122 := by omega
      go_enter Tryd.func22, Tryd.ntmps22
      go_wp2
      go_ret
      exact ⟨by rw [e.out]; rfl, rfl⟩
    · have e : Hid (b = false) := Lib.hid (by rw [← hb]; simp [h2])
      clear hb
      have g1 : (97 : Int) ≤ (c.toNat : Int) := by omega
      have g2 : ¬ (c.toNat : Int) ≤ 122 := by omega
      go_enter Tryd.func22, Tryd.ntmps22
      go_wp2
      go_ret
      exact ⟨by rw [e.out]; rfl, rfl⟩
  · have e : Hid (b = false) := Lib.hid (by rw [← hb]; simp [h1])
    clear hb
    have g1 : ¬ (97 : Int) ≤ (c.toNat : Int) := by omega
    go_enter Tryd.func22, Tryd.ntmps22
    go_wp2
    go_ret
    exact ⟨by rw [e.out]; rfl, rfl⟩
theorem isdigit_any (c : UInt8) (w : World) : Calls Tryd.prog 23 #[.int .u8 c.toNat] w fun e w' => e = .returned (.bool (PLex.isDig c)) ∧ w = w' := by
  obtain ⟨b, hb⟩ : ∃ b, PLex.isDig c = b := ⟨_, rfl⟩
  have HB := Lib.hid hb
  rw [hb]
  unfold PLex.isDig at hb
  by_cases h1 : 48 ≤ c.toNat
  · by_cases h2 : c.toNat ≤ 57
    · have e : Hid (b = true) := Lib.hid (by rw [← hb]; simp [h1, h2])
      clear hb
      have g1 : (48 : Int) ≤ (c.toNat : Int) := by omega
      have g2 : (c.toNat : Int) ≤ 57 := by omega
      go_enter Tryd.func23, Tryd.ntmps23
      go_wp2
      go_ret
      exact ⟨by rw [e.out]; rfl, rfl⟩
    · have e : Hid (b = false) := Lib.hid (by rw [← hb]; simp [h2])
      clear hb
      have g1 : (48 : Int) ≤ (c.toNat : Int) := by omega
      have g2 : ¬ (c.toNat : Int) ≤ 57 := by omega
      go_enter Tryd.func23, Tryd.ntmps23
      go_wp2
      go_ret
      exact ⟨by rw [e.out]; rfl, rfl⟩
  · have e : Hid (b = false) := Lib.hid (by rw [← hb]; simp [h1])
    clear hb
    have g1 : ¬ (48 : Int) ≤ (c.toNat : Int) := by omega
    go_enter Tryd.func23, Tryd.ntmps23
    go_wp2
    go_ret
    exact ⟨by rw [e.out]; rfl, rfl⟩
theorem wordkind_any (s : ByteArray) (w : World) : Calls Tryd.prog 25 #[.string s] w fun e w' => e = .returned (.int .i64 ((if s.size < 13 then 1 else 0 : Nat) : Int)) ∧ w = w' := by
  by_cases h : s.size < 13
  · rw [if_pos h]
    have g : ¬ (12 : Int) < (s.size : Int) := by omega
    go_enter Tryd.func25, Tryd.ntmps25
    go_wp2
    go_ret
    exact ⟨rfl, rfl⟩
  · rw [if_neg h]
    have g : (12 : Int) < (s.size : Int) := by omega
    go_enter Tryd.func25, Tryd.ntmps25
    go_wp2
    go_ret
    exact ⟨rfl, rfl⟩
set_option maxHeartbeats 800000 in
theorem clone_any (s : ByteArray) (w : World) (hlim : s.size ≤ 281474976710656) : Calls Tryd.prog 27 #[.string s] w fun e w' => e = .returned (.string s) ∧ Below w.heap.size w w' := by
  have H := Lib.hid (fun w => Tryd.stringslite_Clone s w hlim)
  go_enter Tryd.func27, Tryd.ntmps27
  go_wp2_with fail
  refine (H.out _).mono ?_
  rintro _ w1 ⟨rfl, hb⟩
  go_wp2_with fail
  go_ret
  exact ⟨rfl, hb⟩
end Go.Proofs.YtpakepapjnakgaaDoor
