/-
  Parts of amounts: plain facts for the laws of layer 3.
-/
import Derived.Test.YtkbfhmdkcfbbgaaRoundMath
namespace PDigs
theorem part_le (m A b c : Nat) (hb : b ≤ c) (hc : 0 < c) : rounded m (A * b) c ≤ A := by
  have h := rounded_mono m (C := c) (Nat.mul_le_mul_left A hb)
  rw [rounded_exact m (A * c) c hc (Nat.mul_mod_left _ _), Nat.mul_div_cancel _ hc] at h
  exact h
/-- A part, Down, and the rest, Up, are all. -/
theorem down_up (A b c : Nat) (hb : b ≤ c) (hc : 0 < c) : A * b / c + rounded 1 (A * (c - b)) c = A := by
  rw [rounded_up]
  have e : A * b + A * (c - b) = A * c := by rw [← Nat.mul_add, Nat.add_sub_cancel' hb]
  have h1 := Nat.div_add_mod (A * b) c
  have h2 : A * b % c < c := Nat.mod_lt _ hc
  have hp : A * b / c ≤ A := by
    have := Nat.div_le_div_right (c := c) (Nat.mul_le_mul_left A hb)
    rwa [Nat.mul_div_cancel _ hc] at this
  obtain ⟨d, hd⟩ : ∃ d, A = A * b / c + d := ⟨A - A * b / c, by omega⟩
  have e3 : A * c = c * (A * b / c) + c * d := by rw [← Nat.mul_add, ← hd, Nat.mul_comm]
  generalize A * b % c = r at *
  generalize A * b / c = p at *
  have e4 : A * (c - b) + r = c * d := by omega
  by_cases h0 : r = 0
  · subst h0
    rw [Nat.add_zero] at e4
    rw [e4, Nat.mul_div_cancel_left _ hc, Nat.mul_mod_right, if_neg (by omega)]; omega
  · obtain ⟨k, rfl⟩ : ∃ k, d = k + 1 := ⟨d - 1, by
      rcases Nat.eq_zero_or_pos d with h | h
      · subst h; omega
      · omega⟩
    have e5 : A * (c - b) = c * k + (c - r) := by rw [Nat.mul_add, Nat.mul_one] at e4; omega
    rw [e5, Nat.mul_add_div hc, Nat.mul_add_mod, Nat.div_eq_of_lt (show c - r < c by omega), Nat.mod_eq_of_lt (show c - r < c by omega), if_pos (by omega)]; omega
theorem sums (A x y c : Nat) (hc : 0 < c) : A * x / c + A * y / c ≤ A * (x + y) / c ∧ A * (x + y) / c ≤ A * x / c + A * y / c + 1 := by
  rw [Nat.mul_add, Nat.add_div hc]
  split <;> omega
end PDigs
namespace Go.Proofs.Ytkbfhmdkcfbbgaa

/-- A part of an amount from 0 on. -/
theorem md_part (A b c m : Nat) (hA : A ≤ 9223372036854775807) (hb : b ≤ c) (hc : 0 < c) (hm : m ≤ 3) : md A b c m = (((PDigs.rounded m (A * b) c : Nat) : Int), 0) := by
  rw [md_nat A b c m hc hm, if_neg]
  have := PDigs.part_le m A b c hb hc
  omega
theorem md_whole (x c m : Int) (hx : -9223372036854775807 ≤ x) (hx' : x ≤ 9223372036854775807) (hc : 0 < c) (h0 : 0 ≤ m) (h1 : m ≤ 3) : md x c c m = (x, 0) := by
  have key : ∀ A : Nat, A ≤ 9223372036854775807 → md A c c m = ((A : Int), 0) := fun A hA => by
    obtain ⟨k, rfl⟩ : ∃ k : Nat, c = k := ⟨c.toNat, by omega⟩
    obtain ⟨j, rfl⟩ : ∃ j : Nat, m = j := ⟨m.toNat, by omega⟩
    rw [md_part A k k j hA (Nat.le_refl _) (by omega) (by omega), PDigs.rounded_exact j (A * k) k (by omega) (Nat.mul_mod_left _ _), Nat.mul_div_cancel _ (by omega)]
  by_cases h : 0 ≤ x
  · have := key x.toNat (by omega); rwa [Int.toNat_of_nonneg h] at this
  · have := md_neg (key (-x).toNat (by omega)) (by omega) (by omega)
    rwa [Int.toNat_of_nonneg (by omega), Int.neg_neg] at this
theorem md_none (x c m : Int) (hx : -9223372036854775807 ≤ x) (hx' : x ≤ 9223372036854775807) (hc : 0 < c) (h0 : 0 ≤ m) (h1 : m ≤ 3) : md x 0 c m = (0, 0) := by
  have key : ∀ A : Nat, A ≤ 9223372036854775807 → md A 0 c m = (0, 0) := fun A hA => by
    obtain ⟨k, rfl⟩ : ∃ k : Nat, c = k := ⟨c.toNat, by omega⟩
    obtain ⟨j, rfl⟩ : ∃ j : Nat, m = j := ⟨m.toNat, by omega⟩
    have := md_part A 0 k j hA (by omega) (by omega) (by omega)
    rw [Nat.mul_zero, PDigs.rounded_exact j 0 k (by omega) (Nat.zero_mod _), Nat.zero_div] at this
    exact this
  by_cases h : 0 ≤ x
  · have := key x.toNat (by omega); rwa [Int.toNat_of_nonneg h] at this
  · have := md_neg (key (-x).toNat (by omega)) (by omega) (by omega)
    rwa [Int.toNat_of_nonneg (by omega), Int.neg_neg] at this
/-- A part of any amount: on its side of 0, and not farther. -/
theorem md_side (x b c m : Int) (hx : -9223372036854775807 ≤ x) (hx' : x ≤ 9223372036854775807) (hb : 0 ≤ b) (hbc : b ≤ c) (hc : 0 < c) (h0 : 0 ≤ m) (h1 : m ≤ 3) :
    ∃ n, md x b c m = (n, 0) ∧ (0 ≤ x → 0 ≤ n ∧ n ≤ x) ∧ (x < 0 → n ≤ 0 ∧ x ≤ n) := by
  obtain ⟨k, rfl⟩ : ∃ k : Nat, c = k := ⟨c.toNat, by omega⟩
  obtain ⟨j, rfl⟩ : ∃ j : Nat, m = j := ⟨m.toNat, by omega⟩
  obtain ⟨i, rfl⟩ : ∃ i : Nat, b = i := ⟨b.toNat, by omega⟩
  have hl := PDigs.part_le j x.natAbs i k (by omega) (by omega)
  have hp := md_part x.natAbs i k j (by omega) (by omega) (by omega) (by omega)
  by_cases h : 0 ≤ x
  · rw [show ((x.natAbs : Nat) : Int) = x by omega] at hp
    exact ⟨_, hp, fun _ => ⟨by omega, by omega⟩, fun h' => by omega⟩
  · have := md_neg hp (by omega) (by omega)
    rw [show -((x.natAbs : Nat) : Int) = x by omega] at this
    exact ⟨_, this, fun h' => by omega, fun _ => ⟨by omega, by omega⟩⟩
end Go.Proofs.Ytkbfhmdkcfbbgaa
