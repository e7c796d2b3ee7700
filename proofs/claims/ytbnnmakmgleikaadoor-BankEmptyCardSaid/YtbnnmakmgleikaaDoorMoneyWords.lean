/-
  The text of an amount: digits, and two behind the dot. Plain facts; no function of the program is named here.
-/
import Derived.Test.YtbnnmakmgleikaaDoorMoneyMath
import Derived.Lib.AppendIntMem
namespace Go.Proofs.YtbnnmakmgleikaaDoor
open Go.RowKit

theorem two_small (i : Nat) (h : i < 10) : (48 :: Lib.decDigits i) = PMoney.two i := by
  unfold PMoney.two
  rw [PMoney.dec_small i h, show i / 10 = 0 by omega, show i % 10 = i by omega]; rfl
theorem two_big (i : Nat) (h : 10 ≤ i) (h' : i < 100) : Lib.decDigits i = PMoney.two i := by
  unfold PMoney.two
  rw [Lib.decDigits, dif_neg (by omega), PMoney.dec_small _ (by omega)]; rfl

theorem ret_str {a b : ByteArray} (h : a = b) : Ending.returned (.string a) = .returned (.string b) := by rw [h]
theorem ret_str0 {a b : ByteArray} {n : Int} (h : a = b) : Ending.returned (.tuple #[.string a, .int .i64 n]) = .returned (.tuple #[.string b, .int .i64 n]) := by rw [h]
theorem dec_len (i : Nat) (h : i ≤ 9223372036854775807) : (Lib.decDigits i).length ≤ 21 := by
  have := Lib.itoa_length_le i (by omega) (by omega)
  unfold Lib.itoa at this
  rw [if_neg (by omega)] at this
  simpa using this

theorem itoa_nat (n : Int) (h : 0 ≤ n) : Lib.itoa n = Lib.decDigits n.toNat := by unfold Lib.itoa; rw [if_neg (by omega)]

theorem text_pos (n : Int) (h : 0 ≤ n) : Lib.itoa (n / 100) ++ [46] ++ PMoney.two (n % 100).toNat = PMoney.text n := by
  obtain ⟨i, rfl⟩ := Int.eq_ofNat_of_zero_le h
  unfold PMoney.text PMoney.textNat PMoney.two
  rw [if_neg (by omega), itoa_nat _ (by omega), show ((i : Int) / 100).toNat = i / 100 by omega, show ((i : Int) % 100).toNat = i % 100 by omega, show (i : Int).natAbs = i by omega, show i % 100 % 10 = i % 10 by omega]
  simp
theorem text_neg (n : Int) (h : n < 0) : 45 :: PMoney.text (-n) = PMoney.text n := by
  unfold PMoney.text
  rw [if_pos h, if_neg (by omega), show (-n).natAbs = n.natAbs by omega]


theorem text_len (n : Int) (h0 : -9223372036854775808 ≤ n) (h1 : n ≤ 9223372036854775807) : 4 ≤ (PMoney.text n).length ∧ (PMoney.text n).length ≤ 30 := by
  have h2 := dec_len (n.natAbs / 100) (by omega)
  have h3 : (Lib.decDigits (n.natAbs / 100)).length ≠ 0 := fun e => PMoney.dec_ne_nil _ (List.eq_nil_of_length_eq_zero e)
  unfold PMoney.text PMoney.textNat
  split <;> simp <;> omega
theorem bytes_eq {u s : ByteArray} {l : List UInt8} (hu : u = ⟨l.toArray⟩) (h : l = s.data.toList) : (u.toList == s.toList) = true := by
  rw [beq_iff_eq, ByteArray.toList_eq, ByteArray.toList_eq, hu, ← h]
theorem bytes_ne {u s : ByteArray} {l : List UInt8} (hu : u = ⟨l.toArray⟩) (h : ¬ l = s.data.toList) : (u.toList == s.toList) = false := by
  rw [beq_eq_false_iff_ne]; intro e; apply h; rw [ByteArray.toList_eq, ByteArray.toList_eq, hu] at e; exact e
end Go.Proofs.YtbnnmakmgleikaaDoor
