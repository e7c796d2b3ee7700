/-
  What the reference of layer 7 answers: is a text a whole number?
-/
import Derived.Test.YtnolbjaeilgjhaaDoorRef07In
namespace PLex
/-- A whole number: 1 to 9 digits, not beginning with 0 but for 0 itself. -/
def whole (l : List UInt8) : Bool := l.all isDig && (0 < l.length && l.length < 10 && (l.length == 1 || l.head? != some 48))
end PLex
namespace Go.Proofs.YtnolbjaeilgjhaaDoor
open Go.RowKit

def digL : ByteArray := { data := #[48, 49, 50, 51, 52, 53, 54, 55, 56, 57] }
theorem dig_in (c : UInt8) : inB c digL.data.toList = PLex.isDig c := by
  have h : ∀ n : Fin 256, inB (UInt8.ofNat n.val) digL.data.toList = PLex.isDig (UInt8.ofNat n.val) := by decide +kernel
  have := h ⟨c.toNat, c.toNat_lt⟩
  simpa using this
/-- The first j bytes are digits. -/
def digsTo (s : ByteArray) (j : Nat) : Prop := ∀ i (h : i < s.size), i < j → PLex.isDig s[i] = true
theorem all_digs {s : ByteArray} (h : digsTo s s.size) : s.data.toList.all PLex.isDig = true := by
  rw [List.all_eq_true]
  intro x hx
  obtain ⟨i, hi, e⟩ := List.getElem_of_mem hx
  have hi' : i < s.size := by simpa using hi
  have := h i hi' hi'
  rw [← e, Array.getElem_toList]; exact this
theorem not_digs {s : ByteArray} {j : Nat} (h : j < s.size) (e : PLex.isDig s[j] = false) : s.data.toList.all PLex.isDig = false := by
  rw [Bool.eq_false_iff]
  intro k
  rw [List.all_eq_true] at k
  have := k s[j] (List.mem_of_getElem (i := j) (h := by simpa using h) (by simp; rfl))
  rw [e] at this; cases this

set_option maxHeartbeats 1600000 in
theorem refwhole_any (s : ByteArray) (w : World) (hs : s.size ≤ 9223372036854775807) :
    Calls Tryd.prog 52 #[.string s] w fun e w' => e = .returned (.bool (PLex.whole s.data.toList)) ∧ w = w' := by
  have HI : Hid (∀ c : UInt8, Calls Tryd.prog 35 #[.int .u8 c.toNat, .string { data := #[48, 49, 50, 51, 52, 53, 54, 55, 56, 57] }] w fun e w' => e = .returned (.bool (PLex.isDig c)) ∧ w = w') := Lib.hid (fun c => by
    have := refin_any c digL w (by decide)
    rw [dig_in] at this; exact this)
  obtain ⟨b, hb⟩ : ∃ b, PLex.whole s.data.toList = b := ⟨_, rfl⟩
  have HB := Lib.hid hb
  rw [hb]
  clear hb
  go_enter Tryd.func52, Tryd.ntmps52
  go_wp2
  go_loop [3] (fun i => ∃ (j : Nat), j ≤ s.size ∧ i = .int .i64 j ∧ Hid (digsTo s j)) (fun i => s.size - (intOf i).toNat)
  case atStart => exact ⟨0, Nat.zero_le _, rfl, (show Hid _ from fun i _ hi => by omega)⟩
  case round =>
    obtain ⟨j, hj, rfl, HD⟩ := hrel
    by_cases hlt : j < s.size
    · have HC := Lib.hid (HI.out s[j])
      obtain ⟨q, hq⟩ : ∃ q, PLex.isDig s[j] = q := ⟨_, rfl⟩
      rw [hq] at HC
      cases q with
      | true =>
        have HD2 : Hid (digsTo s (j + 1)) := Lib.hid (fun i h hi => by
          by_cases e : i = j
          · subst e; exact hq
          · exact HD.out i h (by omega))
        clear hq
        go_wp2_with fail
        refine HC.out.mono ?_
        rintro _ _ ⟨rfl, rfl⟩
        go_wp2_with fail
        go_round
        case rel => exact ⟨j + 1, by omega, by go_num, HD2⟩
        case measure => simp [intOf]; omega
      | false =>
        have HF : Hid (b = false) := Lib.hid (by rw [← HB.out]; unfold PLex.whole; rw [not_digs hlt hq]; rfl)
        clear hq
        go_wp2_with fail
        refine HC.out.mono ?_
        rintro _ _ ⟨rfl, rfl⟩
        go_wp2_with fail
        go_ret
        exact ⟨by rw [HF.out]; rfl, rfl⟩
    · obtain rfl : j = s.size := by omega
      have hall := all_digs HD.out
      have hlen : s.data.toList.length = s.size := by simp
      have HW : Hid (b = (decide (0 < s.size) && decide (s.size < 10) && (s.size == 1 || s.data.toList.head? != some 48))) := Lib.hid (by
        rw [← HB.out]; unfold PLex.whole; rw [hall, hlen]; simp [Bool.and_assoc])
      by_cases h0 : s.size = 0
      · have HF : Hid (b = false) := Lib.hid (by rw [HW.out, h0]; rfl)
        have z0 : ¬ 0 < (s.size : Int) := by omega
        clear HW hall hlen
        go_wp2_with fail
        go_ret
        exact ⟨by rw [HF.out]; rfl, rfl⟩
      by_cases h10 : s.size < 10
      · by_cases h1 : s.size = 1
        · have HF : Hid (b = true) := Lib.hid (by rw [HW.out, h1]; rfl)
          clear HW hall hlen
          go_wp2_with fail
          go_ret
          exact ⟨by rw [HF.out]; rfl, rfl⟩
        · have h1b : (s.size == 1) = false := by rw [beq_eq_false_iff_ne]; exact h1
          have h1c : ((s.size : Int) == 1) = false := by rw [beq_eq_false_iff_ne]; omega
          have hp : 0 < s.size := by omega
          have hh : s.data.toList.head? = some s[0] := by
            have := drop_at (s := s) (j := 0) hp
            rw [List.drop_zero] at this
            rw [this]; rfl
          by_cases hz : s[0] = 48
          · have HF : Hid (b = false) := Lib.hid (by rw [HW.out, hh, hz, h1b]; simp)
            have hzz : (((s[0].toNat : Nat) : Int) != 48) = false := by rw [hz]; rfl
            clear HW hall hlen hh hz
            go_wp2_with fail
            go_ret
            exact ⟨by rw [HF.out]; rfl, rfl⟩
          · have HF : Hid (b = true) := Lib.hid (by rw [HW.out, hh, h1b, decide_eq_true hp, decide_eq_true h10]; simp [hz])
            have hzz : (((s[0].toNat : Nat) : Int) != 48) = true := by
              rw [bne_iff_ne]; intro k; apply hz; apply UInt8.toNat_inj.1; show s[0].toNat = 48; omega
            clear HW hall hlen hh hz
            go_wp2_with fail
            go_ret
            exact ⟨by rw [HF.out]; rfl, rfl⟩
      · have HF : Hid (b = false) := Lib.hid (by rw [HW.out, decide_eq_false h10]; simp)
        clear HW hall hlen
        go_wp2_with fail
        go_ret
        exact ⟨by rw [HF.out]; rfl, rfl⟩
end Go.Proofs.YtnolbjaeilgjhaaDoor
