/-
  Plain facts on rates and their texts. No program is named here.
-/
import Derived.Test.YtnolbjaeilgjhaaDoorMoneyMath
import Derived.Lib.Strings
namespace PRate
open Go

def text (n : Int) : List UInt8 := PMoney.text n ++ [37]
def parse (l : List UInt8) : Option Int := if Lib.hasSuffix l [37] = true then (PMoney.parse (Lib.trimSuffix l [37])).filter (fun n => decide (0 ≤ n ∧ n ≤ 10000)) else none

theorem suffix_iff (l : List UInt8) : Lib.hasSuffix l [37] = true ↔ ∃ k, l = k ++ [37] := by
  unfold Lib.hasSuffix
  rw [List.isSuffixOf_iff_suffix]
  exact ⟨fun ⟨k, h⟩ => ⟨k, h.symm⟩, fun ⟨k, h⟩ => ⟨k, h.symm⟩⟩
theorem trim_snoc (k : List UInt8) : Lib.trimSuffix (k ++ [37]) [37] = k := by
  unfold Lib.trimSuffix
  rw [if_pos ((suffix_iff _).2 ⟨k, rfl⟩)]; simp
theorem parse_iff (l : List UInt8) (n : Int) : parse l = some n ↔ (0 ≤ n ∧ n ≤ 10000 ∧ text n = l) := by
  unfold parse text
  by_cases h : Lib.hasSuffix l [37] = true
  · obtain ⟨k, rfl⟩ := (suffix_iff l).1 h
    rw [if_pos h, trim_snoc, Option.filter_eq_some_iff, decide_eq_true_iff]
    constructor
    · rintro ⟨h1, h2, h3⟩
      exact ⟨h2, h3, by rw [(PMoney.parse_some h1).1]⟩
    · rintro ⟨h1, h2, h3⟩
      refine ⟨?_, h1, h2⟩
      rw [← List.append_cancel_right h3]
      exact PMoney.parse_text n (by unfold PMoney.MM; omega)
  · rw [if_neg h]
    constructor
    · intro k; cases k
    · rintro ⟨_, _, h3⟩
      exact absurd ((suffix_iff l).2 ⟨_, h3.symm⟩) h
theorem parse_text (n : Int) (h0 : 0 ≤ n) (h1 : n ≤ 10000) : parse (text n) = some n := (parse_iff _ _).2 ⟨h0, h1, rfl⟩
theorem text_inj {a b : Int} (ha : 0 ≤ a) (ha' : a ≤ 10000) (h : text a = text b) (hb : 0 ≤ b) (hb' : b ≤ 10000) : a = b := by
  have h1 := parse_text a ha ha'
  rw [h, parse_text b hb hb'] at h1
  exact (Option.some.inj h1).symm
theorem awake : parse [49, 50, 46, 53, 48, 37] = some 1250 := by
  rw [parse_iff]
  refine ⟨by decide, by decide, ?_⟩
  decide +kernel
end PRate
