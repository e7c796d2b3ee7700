/-
  A number with noughts ahead: the document's answer.
-/
import Derived.Test.YtbnnmakmgleikaaDoorBkPad
import Derived.Test.YtbnnmakmgleikaaDoorRef01Digits
set_option linter.unusedVariables false
namespace Go.Proofs.YtbnnmakmgleikaaDoor
open Go.RowKit

def strLen : Value → Nat
  | .string b => b.size
  | _ => 0
set_option maxHeartbeats 1600000 in
theorem r22wide_any {n d : Nat} (w : World) (hd : 0 < d) (hd2 : d ≤ 20) (hn : n < 10 ^ d) (hm : n ≤ 9223372036854775807) :
    Calls Tryd.prog 25 #[.int .i64 (n : Nat), .int .i64 (d : Nat)] w (TxtB (PBank.pad d n) w) := by
  obtain ⟨Q, hQ⟩ : ∃ Q, TxtB (PBank.pad d n) w = Q := ⟨_, rfl⟩
  rw [hQ]
  have FIN : Hid (∀ w' : World, Below w.heap.size w w' → Q (.returned (.string ⟨(PBank.pad d n).toArray⟩)) w') := Lib.hid (fun w' a => by rw [← hQ]; exact ⟨rfl, a⟩)
  have hle := PBank.dec_len_le d n hd hn
  obtain ⟨k, hk⟩ : ∃ k, (Lib.decDigits n).length = k := ⟨_, rfl⟩
  have CD := Lib.hid (show Calls Tryd.prog 39 #[.int .i64 (n : Nat)] w (TxtB (Lib.decDigits n) w) from digits_nat n w hm)
  obtain ⟨t, htt⟩ : ∃ t, Lib.decDigits n = t := ⟨_, rfl⟩
  have HP : Hid (List.replicate (d - k) 48 ++ t = PBank.pad d n) := Lib.hid (by unfold PBank.pad; rw [hk, htt])
  have hkt : t.length = k := by rw [← htt]; exact hk
  rw [htt] at CD
  have hkd : k ≤ d := by omega
  clear hQ hn hk htt hle
  go_enter Tryd.func25, Tryd.ntmps25
  go_wp2_with (go_at_call 39; refine CD.out.mono ?_)
  intro e1 w1 h1
  obtain ⟨rfl, b1⟩ := h1
  have B1 := Lib.hid b1
  clear b1 CD
  go_wp2_with fail
  go_loopw [5] (fun s wr => ∃ (j : Nat) (y : List UInt8), s = .string ⟨y.toArray⟩ ∧ y.length = k + j ∧ k + j ≤ d ∧ Hid (y = List.replicate j 48 ++ t) ∧ Hid (Below w.heap.size w wr)) (fun s _ => d - strLen s)
  case atStart => exact ⟨0, t, rfl, by omega, by omega, Lib.hid rfl, B1⟩
  case round =>
    obtain ⟨j, y, rfl, hy, hj, HY, HB⟩ := hrel
    by_cases hlt : k + j < d
    · have gl : (y.length : Int) < (d : Int) := by omega
      go_wp2_with fail
      refine ⟨⟨j + 1, 48 :: y, congrArg Value.string (ByteArray.mk_append_mk [48] y), by simp; omega, by omega, Lib.hid (by rw [HY.out, List.replicate_succ]; rfl), HB⟩, ?_⟩
      have e1 : ({ data := y.toArray } : ByteArray).size = y.length := by simp [ByteArray.size]
      have e2 : ({ data := #[48] } : ByteArray).size = 1 := rfl
      show d - (({ data := #[48] } : ByteArray) ++ { data := y.toArray }).size < d - ({ data := y.toArray } : ByteArray).size
      rw [ByteArray.size_append, e1, e2]
      omega
    · have gl : ¬ (y.length : Int) < (d : Int) := by omega
      have HE : Hid (y = PBank.pad d n) := Lib.hid (by rw [HY.out, ← HP.out, show j = d - k by omega])
      go_wp2_with fail
      rw [HE.out]
      exact FIN.out _ HB.out
end Go.Proofs.YtbnnmakmgleikaaDoor
