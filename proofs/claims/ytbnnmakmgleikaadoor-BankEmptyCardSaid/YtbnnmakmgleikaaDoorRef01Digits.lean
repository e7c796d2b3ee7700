/-
  What the reference's Digits answers: the digits of a number from 0 on.
-/
import Derived.Test.YtbnnmakmgleikaaDoorBase
import Derived.Test.YtbnnmakmgleikaaDoorMoneyWords
import Derived.Test.YtbnnmakmgleikaaDoorShelf
import Derived.Laws.IdiomStrings
namespace Go.Proofs.YtbnnmakmgleikaaDoor
open Go.RowKit

/-- What stands ahead of the digits that are there. -/
def ahead10 (m : Nat) : List UInt8 := if m < 10 then [] else Lib.decDigits (m / 10)
theorem ahead10_step (m : Nat) : ahead10 m ++ [UInt8.ofNat (48 + m % 10)] = Lib.decDigits m := by
  unfold ahead10
  by_cases h : m < 10
  · rw [if_pos h, PMoney.dec_small m h, show m % 10 = m by omega]; rfl
  · rw [if_neg h]; conv => rhs; rw [Lib.decDigits, dif_neg h]

/-- One digit. -/
def dig1 (m : Nat) : List UInt8 := [UInt8.ofNat (48 + m % 10)]
theorem dig1_len (m : Nat) : (dig1 m).length ≤ 1 := Nat.le_refl _
theorem ahead10_dig (m : Nat) (x : List UInt8) : ahead10 m ++ (dig1 m ++ x) = Lib.decDigits m ++ x := by
  rw [← List.append_assoc]; unfold dig1; rw [ahead10_step]
theorem convert_one (W : World) (m : Nat) : (convert 41 9 (.slice (some ⟨W.heap.size, 0, none⟩) 1 1)).run Tryd.prog (W.alloc (.cells #[.int .u8 (48 + (m : Int) % 10)] 5)) = .ok (.string ⟨(dig1 m).toArray⟩) (W.alloc (.cells #[.int .u8 (48 + (m : Int) % 10)] 5)) := by
  refine run_convert_bytes_back _ 41 9 5 ⟨W.heap.size, 0, none⟩ 1 (dig1 m) Tryd.underlying41 Tryd.underlying5 Tryd.underlying9 fun j hj => ?_
  have h0 : j = 0 := by have := dig1_len m; omega
  subst h0
  simp only [Addr.add, if_true]
  rw [World.cell?_alloc_new]
  have : (UInt8.ofNat (48 + m % 10)).toNat = 48 + m % 10 := by rw [UInt8.toNat_ofNat']; omega
  simp only [dig1, List.getElem_cons_zero]
  rw [this]
  simp

set_option maxRecDepth 100000 in
set_option maxHeartbeats 800000 in
theorem digits_nat (n : Nat) (w : World) (hn : n ≤ 9223372036854775807) :
    Calls Tryd.prog 39 #[.int .i64 n] w fun e w' => e = .returned (.string ⟨(Lib.decDigits n).toArray⟩) ∧ Below w.heap.size w w' := by
  have hl := dec_len n hn
  have hcv := convert_one w n
  go_enter Tryd.func39, Tryd.ntmps39
  go_wp2_with fail
  clear hcv
  go_loopw [0, 3] (fun a s wr => ∃ (m : Nat) (x : List UInt8), m ≤ n ∧ a = .int .i64 m ∧ s = .string ⟨x.toArray⟩ ∧ x.length ≤ 21 ∧ Lib.decDigits n = ahead10 m ++ x ∧ Below w.heap.size w wr) (fun a _ _ => (intOf a).toNat)
  case atStart => exact ⟨n, dig1 n, Nat.le_refl _, rfl, rfl, by have := dig1_len n; omega, by have := ahead10_dig n []; simpa using this.symm, (Below.refl _ _).alloc (Nat.le_refl _) _⟩
  case round =>
    obtain ⟨m, x, hm, rfl, rfl, hx, hd, hb⟩ := hrel
    have HD := Lib.hid hd; clear hd
    by_cases hlt : m < 10
    · have HR : Hid (Lib.decDigits n = x) := Lib.hid (by have := HD.out; unfold ahead10 at this; rw [if_pos hlt] at this; simpa using this)
      go_wp2
      go_ret
      exact ⟨ret_str (by rw [HR.out]), hb⟩
    · obtain ⟨k, hk⟩ : ∃ k, m / 10 = k := ⟨_, rfl⟩
      have hcv := convert_one wr k
      have hki : ((m : Int) / 10) = (k : Int) := by omega
      have hk2 : k ≤ 9223372036854775807 := by omega
      have hk3 : k < m := by omega
      have HK := Lib.hid hk; clear hk
      have h1 := dig1_len k
      have HY : Hid (Lib.decDigits n = ahead10 k ++ (dig1 k ++ x)) := Lib.hid (by
        rw [ahead10_dig, HD.out]; unfold ahead10; rw [if_neg hlt, HK.out])
      have hy : (dig1 k ++ x).length ≤ 21 := by
        have h2 := congrArg List.length HY.out
        rw [List.length_append] at h2
        omega
      go_wp2_with fail
      refine ⟨⟨k, dig1 k ++ x, by omega, rfl, congrArg Value.string (ByteArray.mk_append_mk _ _), hy, HY.out, hb.alloc hb.size _⟩, ?_⟩
      simp [intOf]; omega
theorem digits_any (n : Int) (w : World) (h0 : 0 ≤ n) (hn : n ≤ 9223372036854775807) :
    Calls Tryd.prog 39 #[.int .i64 n] w fun e w' => e = .returned (.string ⟨(Lib.decDigits n.toNat).toArray⟩) ∧ Below w.heap.size w w' := by
  obtain ⟨i, rfl⟩ := Int.eq_ofNat_of_zero_le h0
  exact digits_nat i w (by omega)
end Go.Proofs.YtbnnmakmgleikaaDoor
