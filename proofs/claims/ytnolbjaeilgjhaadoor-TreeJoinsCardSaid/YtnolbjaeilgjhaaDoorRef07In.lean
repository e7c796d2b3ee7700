/-
  What the reference of layer 7 answers: does a byte stand in a text; the end of a run; a whole number.
-/
import Derived.Test.YtnolbjaeilgjhaaDoorLexMath2
import Derived.ProofKit
import Derived.OpenShut
import Derived.ChangeOld
import Derived.Below
namespace Go.Proofs.YtnolbjaeilgjhaaDoor
open Go.RowKit

/-- Of the first j bytes none is c. -/
def noneTo (c : UInt8) (s : ByteArray) (j : Nat) : Prop := ∀ i (h : i < s.size), i < j → s[i] ≠ c
/-- Does a byte stand in a list? -/
def inB (c : UInt8) (l : List UInt8) : Bool := l.contains c
theorem contains_no {c : UInt8} {s : ByteArray} (h : noneTo c s s.size) : inB c s.data.toList = false := by
  unfold inB
  rw [Bool.eq_false_iff]
  intro k
  rw [List.contains_iff_mem] at k
  obtain ⟨i, hi, e⟩ := List.getElem_of_mem k
  have hi' : i < s.size := by simpa using hi
  exact h i hi' hi' (by rw [← e]; simp; rfl)
theorem contains_yes {c : UInt8} {s : ByteArray} {j : Nat} (h : j < s.size) (e : s[j] = c) : inB c s.data.toList = true := by
  unfold inB
  rw [List.contains_iff_mem, ← e]
  exact List.mem_of_getElem (i := j) (h := by simpa using h) (by simp; rfl)

set_option maxHeartbeats 800000 in
theorem refin_any (c : UInt8) (s : ByteArray) (w : World) (hs : s.size ≤ 9223372036854775807) :
    Calls Tryd.prog 35 #[.int .u8 c.toNat, .string s] w fun e w' => e = .returned (.bool (inB c s.data.toList)) ∧ w = w' := by
  go_enter Tryd.func35, Tryd.ntmps35
  go_wp2
  go_loop [5] (fun i => ∃ (j : Nat), j ≤ s.size ∧ i = .int .i64 j ∧ Hid (noneTo c s j)) (fun i => s.size - (intOf i).toNat)
  case atStart => exact ⟨0, Nat.zero_le _, rfl, (show Hid _ from fun i _ hi => by omega)⟩
  case round =>
    obtain ⟨j, hj, rfl, HN⟩ := hrel
    by_cases hlt : j < s.size
    · by_cases hc : s[j] = c
      · have HF := Lib.hid (contains_yes hlt hc)
        have hcc : (((s[j].toNat : Nat) : Int) == ((c.toNat : Nat) : Int)) = true := by rw [hc]; exact beq_self_eq_true _
        clear hc
        go_wp2
        go_ret
        exact ⟨by rw [HF.out]; rfl, rfl⟩
      · have HN2 : Hid (noneTo c s (j + 1)) := Lib.hid (fun i h hi => by
          by_cases e : i = j
          · subst e; exact hc
          · exact HN.out i h (by omega))
        have hcc : (((s[j].toNat : Nat) : Int) == ((c.toNat : Nat) : Int)) = false := by
          rw [beq_eq_false_iff_ne]
          intro k
          exact hc (UInt8.toNat_inj.1 (by omega))
        clear hc
        go_wp2
        go_round
        case rel => exact ⟨j + 1, by omega, by go_num, HN2⟩
        case measure => simp [intOf]; omega
    · obtain rfl : j = s.size := by omega
      have HF := Lib.hid (contains_no HN.out)
      go_wp2
      go_ret
      exact ⟨by rw [HF.out]; rfl, rfl⟩

theorem drop_at {s : ByteArray} {j : Nat} (h : j < s.size) : s.data.toList.drop j = s[j] :: s.data.toList.drop (j + 1) := by
  rw [List.drop_eq_getElem_cons (by simpa using h)]
  simp; rfl
/-- The place behind the run of bytes of l that begins at j. -/
def endOf (l : List UInt8) (s : ByteArray) (j : Nat) : Nat := j + ((s.data.toList.drop j).takeWhile (fun c => inB c l)).length
theorem endOf_yes {l : List UInt8} {s : ByteArray} {j : Nat} (h : j < s.size) (hc : inB s[j] l = true) : endOf l s j = endOf l s (j + 1) := by
  unfold endOf
  rw [drop_at h, List.takeWhile_cons, if_pos hc, List.length_cons]; omega
theorem endOf_no {l : List UInt8} {s : ByteArray} {j : Nat} (h : j < s.size) (hc : inB s[j] l = false) : endOf l s j = j := by
  unfold endOf
  rw [drop_at h, List.takeWhile_cons, if_neg (by rw [hc]; exact Bool.false_ne_true)]; rfl
theorem endOf_last {l : List UInt8} {s : ByteArray} : endOf l s s.size = s.size := by
  unfold endOf
  rw [List.drop_of_length_le (by simp)]; rfl

set_option maxHeartbeats 800000 in
theorem refend_any (s l : ByteArray) (a : Nat) (w : World) (hs : s.size ≤ 9223372036854775807) (hl : l.size ≤ 9223372036854775807) (ha : a ≤ s.size) :
    Calls Tryd.prog 36 #[.string s, .int .i64 a, .string l] w fun e w' => e = .returned (.int .i64 (endOf l.data.toList s a : Nat)) ∧ w = w' := by
  have HI : Hid (∀ c : UInt8, Calls Tryd.prog 35 #[.int .u8 c.toNat, .string l] w fun e w' => e = .returned (.bool (inB c l.data.toList)) ∧ w = w') := Lib.hid (fun c => refin_any c l w hl)
  go_enter Tryd.func36, Tryd.ntmps36
  go_wp2
  go_loop [1] (fun i => ∃ (j : Nat), j ≤ s.size ∧ i = .int .i64 j ∧ Hid (endOf l.data.toList s a = endOf l.data.toList s j)) (fun i => s.size - (intOf i).toNat)
  case atStart => exact ⟨a, ha, rfl, (show Hid _ from rfl)⟩
  case round =>
    obtain ⟨j, hj, rfl, HE⟩ := hrel
    by_cases hlt : j < s.size
    · obtain ⟨b, hb⟩ : ∃ b, inB s[j] l.data.toList = b := ⟨_, rfl⟩
      have HC := Lib.hid (HI.out s[j])
      rw [hb] at HC
      cases b with
      | true =>
        have HE2 : Hid (endOf l.data.toList s a = endOf l.data.toList s (j + 1)) := Lib.hid (by rw [HE.out, endOf_yes hlt hb])
        clear hb
        go_wp2_with fail
        refine HC.out.mono ?_
        rintro _ _ ⟨rfl, rfl⟩
        go_wp2_with fail
        go_round
        case rel => exact ⟨j + 1, by omega, by go_num, HE2⟩
        case measure => simp [intOf]; omega
      | false =>
        have HE2 : Hid (endOf l.data.toList s a = j) := Lib.hid (by rw [HE.out, endOf_no hlt hb])
        clear hb
        go_wp2_with fail
        refine HC.out.mono ?_
        rintro _ _ ⟨rfl, rfl⟩
        go_wp2_with fail
        go_ret
        exact ⟨by rw [HE2.out]; rfl, rfl⟩
    · obtain rfl : j = s.size := by omega
      have HE2 : Hid (endOf l.data.toList s a = s.size) := Lib.hid (by rw [HE.out, endOf_last])
      go_wp2_with fail
      go_ret
      exact ⟨by rw [HE2.out]; rfl, rfl⟩
end Go.Proofs.YtnolbjaeilgjhaaDoor
