/-
  The text of a rate: how long it is. Plain facts; no function of the program is named here.
-/
import Derived.Test.YtnolbjaeilgjhaaDoorMoneyWords
import Derived.Test.YtnolbjaeilgjhaaDoorRateMath
namespace PRate
theorem dec_range (q : Nat) (h : q ≤ 100) : 1 ≤ (Go.Lib.decDigits q).length ∧ (Go.Lib.decDigits q).length ≤ 3 := by
  by_cases h1 : q < 10
  · rw [PMoney.dec_small q h1]; simp
  · have e : q = 10 * (q / 10) + q % 10 := by omega
    rw [e, PMoney.dec_big (q / 10) (q % 10) (by omega) (by omega), List.length_append]
    by_cases h2 : q / 10 < 10
    · rw [PMoney.dec_small _ h2]; simp
    · have e' : q / 10 = 10 * 1 + 0 := by omega
      rw [e', PMoney.dec_big 1 0 (by omega) (by omega), PMoney.dec_small 1 (by omega)]; simp
theorem text_len (n : Int) (h0 : 0 ≤ n) (h1 : n ≤ 10000) : 5 ≤ (text n).length ∧ (text n).length ≤ 7 := by
  have := dec_range (n.natAbs / 100) (by omega)
  unfold text PMoney.text
  rw [if_neg (by omega), List.length_append, PMoney.textNat_length]
  simp; omega
end PRate
