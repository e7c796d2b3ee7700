/-
  Division of two digits by one, each of 32 bits, as Knuth has it: plain facts. No program is named here.
-/
import Derived.Laws.Bits64b
import Derived.Lib.Hide
import Derived.Lib.ItoaNum
namespace PKnuth
theorem trial {u d y y1 y0 q r : Nat} (hy : y = y1 * 4294967296 + y0) (h : q * y1 + r = u) : (q * y ≤ u * 4294967296 + d ↔ q * y0 ≤ 4294967296 * r + d) := by
  have e : q * y = (q * y1) * 4294967296 + q * y0 := by rw [hy, Nat.mul_add, Nat.mul_assoc]
  rw [e]
  generalize q * y1 = a at *
  generalize q * y0 = b at *
  omega
/-- A trial that is not too great, and not less than the quotient, is the quotient. -/
theorem is_quot {n y q : Nat} (hy : 0 < y) (h1 : q * y ≤ n) (h2 : n / y ≤ q) : q = n / y :=
  Nat.le_antisymm ((Nat.le_div_iff_mul_le hy).2 h1) h2
theorem too_great {n y q : Nat} (hy : 0 < y) (h1 : ¬ q * y ≤ n) : n / y < q :=
  Nat.lt_of_not_le fun h => h1 ((Nat.le_div_iff_mul_le hy).1 h)
/-- The quotient of the first two digits is below the base. -/
theorem quot_lt {u d y : Nat} (hu : u < y) (hd : d < 4294967296) : (u * 4294967296 + d) / y < 4294967296 := by
  apply Nat.div_lt_of_lt_mul
  have h := Nat.mul_le_mul_right 4294967296 (show u + 1 ≤ y from hu)
  rw [Nat.add_mul] at h
  omega
/-- The first trial: not less than the quotient, at most the base and 1. -/
theorem first {u d y y1 y0 : Nat} (hy : y = y1 * 4294967296 + y0) (hy0 : y0 < 4294967296) (hy1 : 2147483648 ≤ y1) (hu : u < y) (hd : d < 4294967296) :
    (u * 4294967296 + d) / y ≤ u / y1 ∧ u / y1 ≤ 4294967297 := by
  have p1 : 0 < y1 := by omega
  constructor
  · -- q*y <= u*B+d -> q*y1 <= u
    rw [Nat.le_div_iff_mul_le p1]
    have h := Nat.div_mul_le_self (u * 4294967296 + d) y
    generalize (u * 4294967296 + d) / y = q at *
    have e : q * y = (q * y1) * 4294967296 + q * y0 := by rw [hy, Nat.mul_add, Nat.mul_assoc]
    rw [e] at h
    generalize q * y1 = a at *
    generalize q * y0 = b at *
    omega
  · have : u / y1 < 4294967298 := by
      rw [Nat.div_lt_iff_lt_mul p1]
      omega
    omega
/-- What is left, by numbers of 64 bits that wrap round. -/
theorem left_wrap {u d y q r : Nat} (h : u * 4294967296 + d = q * y + r) (hr : r < 18446744073709551616) :
    Go.IntKind.u64.wrap (Go.IntKind.u64.wrap (Go.IntKind.u64.wrap ((u : Int) * 4294967296) + (d : Int)) - Go.IntKind.u64.wrap ((q : Int) * (y : Int))) = (r : Int) := by
  have h' : ((u * 4294967296 + d : Nat) : Int) = ((q * y + r : Nat) : Int) := by rw [h]
  rw [Int.natCast_add, Int.natCast_mul, Int.natCast_add, Int.natCast_mul q y] at h'
  rw [Go.IntKind.wrap_u64, Go.IntKind.wrap_u64, Go.IntKind.wrap_u64, Go.IntKind.wrap_u64]
  generalize (q : Int) * (y : Int) = a at *
  omega
/-- Both numbers moved to the left, so that the divisor's highest bit stands. -/
theorem norm {hi lo y s : Nat} (hs : s ≤ 63) (h : hi < y) (hlo : lo < 18446744073709551616) (hY : y * 2 ^ s < 18446744073709551616) :
    hi * 2 ^ s + lo / 2 ^ (64 - s) < y * 2 ^ s ∧ hi * 2 ^ s < 18446744073709551616 ∧ lo / 2 ^ (64 - s) < 2 ^ s ∧
    (hi * 2 ^ s + lo / 2 ^ (64 - s)) * 18446744073709551616 + lo * 2 ^ s % 18446744073709551616 = (hi * 18446744073709551616 + lo) * 2 ^ s := by
  have hp : (18446744073709551616 : Nat) = 2 ^ (64 - s) * 2 ^ s := by rw [← Nat.pow_add, show 64 - s + s = 64 by omega]
  have p0 : 0 < 2 ^ s := Nat.two_pow_pos s
  have p1 : 0 < 2 ^ (64 - s) := Nat.two_pow_pos _
  have a3 : lo / 2 ^ (64 - s) < 2 ^ s := Nat.div_lt_of_lt_mul (by omega)
  have a1 : (hi + 1) * 2 ^ s ≤ y * 2 ^ s := Nat.mul_le_mul_right _ h
  have e : lo * 2 ^ s / 18446744073709551616 = lo / 2 ^ (64 - s) := by rw [hp]; exact Nat.mul_div_mul_right _ _ p0
  have e2 := Nat.div_add_mod (lo * 2 ^ s) 18446744073709551616
  rw [e] at e2
  rw [Nat.add_mul] at a1
  refine ⟨by omega, by omega, a3, ?_⟩
  rw [Nat.add_mul, Nat.add_mul, ← e2, Nat.mul_right_comm hi]
  omega
/-- The answer, out of the two digits. -/
theorem both {n y s U V1 V0 q1 u q0 r Y : Nat} (hY : Y = y * 2 ^ s) (hN : U * 18446744073709551616 + (V1 * 4294967296 + V0) = n * 2 ^ s)
    (h1 : U * 4294967296 + V1 = q1 * Y + u) (h0 : u * 4294967296 + V0 = q0 * Y + r) (hr : r < Y) :
    q1 * 4294967296 + q0 = n / y ∧ r / 2 ^ s = n % y := by
  have p0 : 0 < 2 ^ s := Nat.two_pow_pos s
  have e : n * 2 ^ s = (q1 * 4294967296 + q0) * Y + r := by
    have e1 : (q1 * 4294967296 + q0) * Y = q1 * Y * 4294967296 + q0 * Y := by rw [Nat.add_mul, Nat.mul_right_comm]
    clear hY
    omega
  have hY0 : 0 < Y := by omega
  have d1 : n * 2 ^ s / Y = n / y := by rw [hY]; exact Nat.mul_div_mul_right _ _ p0
  have d2 : n * 2 ^ s % Y = n % y * 2 ^ s := by rw [hY, Nat.mul_mod_mul_right]
  constructor
  · rw [← d1, e, Nat.mul_comm _ Y, Nat.mul_add_div hY0, Nat.div_eq_of_lt hr, Nat.add_zero]
  · have : r = n % y * 2 ^ s := by rw [← d2, e, Nat.mul_comm _ Y, Nat.mul_add_mod, Nat.mod_eq_of_lt hr]
    rw [this, Nat.mul_div_cancel _ p0]
theorem or_add {a b s : Nat} (h : b < 2 ^ s) (ha : a * 2 ^ s < 18446744073709551616) (hb : b < 18446744073709551616) :
    Go.bits .or .u64 ((a * 2 ^ s : Nat) : Int) (b : Int) = ((a * 2 ^ s + b : Nat) : Int) := by
  rw [Go.bits_or_u64_nat _ _ ha hb, Nat.mul_comm a, ← Nat.two_pow_add_eq_or_of_lt h]
theorem mask {a : Nat} (ha : a < 18446744073709551616) : Go.bits .and .u64 (a : Int) 4294967295 = ((a % 4294967296 : Nat) : Int) := by
  have h := Go.bits_and_u64_nat a 4294967295 ha (by omega)
  have e : a &&& 4294967295 = a % 4294967296 := Nat.and_two_pow_sub_one_eq_mod a 32
  rw [e] at h
  exact h
/-- How far to the left. -/
theorem lead {y : Nat} (h0 : 0 < y) (h1 : y < 18446744073709551616) : Go.Lib.bitLen y ≤ 64 ∧ 1 ≤ Go.Lib.bitLen y ∧ 9223372036854775808 ≤ y * 2 ^ (64 - Go.Lib.bitLen y) ∧ y * 2 ^ (64 - Go.Lib.bitLen y) < 18446744073709551616 := by
  have hle := Go.Lib.bitLen_le y 64 (by omega) h1
  obtain ⟨b1, b2, b3⟩ := Go.Lib.bitLenAux_bounds 64 y h1 (by omega)
  change 1 ≤ Go.Lib.bitLen y at b1
  change 2 ^ (Go.Lib.bitLen y - 1) ≤ y at b2
  change y < 2 ^ Go.Lib.bitLen y at b3
  generalize Go.Lib.bitLen y = n at *
  refine ⟨hle, b1, ?_, ?_⟩
  · have : (9223372036854775808 : Nat) = 2 ^ (n - 1) * 2 ^ (64 - n) := by rw [← Nat.pow_add, show n - 1 + (64 - n) = 63 by omega]
    rw [this]; exact Nat.mul_le_mul_right _ b2
  · have : (18446744073709551616 : Nat) = 2 ^ n * 2 ^ (64 - n) := by rw [← Nat.pow_add, show n + (64 - n) = 64 by omega]
    rw [this]; exact Nat.mul_lt_mul_of_pos_right b3 (Nat.two_pow_pos _)
theorem quo_wrap {u y : Nat} (hu : u < 18446744073709551616) : Go.IntKind.u64.wrap ((u : Int) / (y : Int)) = ((u / y : Nat) : Int) := by
  have := Nat.div_le_self u y
  rw [← Int.natCast_ediv, Go.IntKind.wrap_u64]
  generalize u / y = a at *
  omega
theorem rem_wrap {u y : Nat} (hu : u < 18446744073709551616) : Go.IntKind.u64.wrap ((u : Int) - Go.IntKind.u64.wrap (((u / y : Nat) : Int) * (y : Int))) = ((u % y : Nat) : Int) := by
  have h := Nat.div_add_mod' u y
  rw [← Int.natCast_mul, Go.IntKind.wrap_u64, Go.IntKind.wrap_u64]
  generalize u / y * y = a at *
  generalize u % y = b at *
  omega
/-- A trial that is too great: 1 less. -/
theorem step {U d Y Y1 Y0 Q R : Nat} (hy : Y = Y1 * 4294967296 + Y0) (hy0 : Y0 < 4294967296) (hU : U < Y) (hd : d < 4294967296) (i1 : Q * Y1 + R = U) (i2 : (U * 4294967296 + d) / Y ≤ Q) (i3 : Q ≤ 4294967297)
    (hc : 4294967296 ≤ Q ∨ 4294967296 * R + d < Q * Y0) :
    1 ≤ Q ∧ (Q - 1) * Y1 + (R + Y1) = U ∧ (U * 4294967296 + d) / Y ≤ Q - 1 ∧ (4294967296 ≤ R + Y1 → (U * 4294967296 + d) / Y = Q - 1) := by
  have p : 0 < Y := by omega
  have hlt : (U * 4294967296 + d) / Y < Q := by
    rcases hc with h | h
    · exact Nat.lt_of_lt_of_le (quot_lt hU hd) h
    · exact too_great p (fun h' => Nat.not_le.2 h ((trial hy i1).1 h'))
  have hQ : 1 ≤ Q := Nat.lt_of_le_of_lt (Nat.zero_le _) hlt
  have e : (Q - 1) * Y1 + (R + Y1) = U := by
    obtain ⟨k, rfl⟩ : ∃ k, Q = k + 1 := ⟨Q - 1, by omega⟩
    rw [Nat.add_mul] at i1
    rw [Nat.add_sub_cancel]; omega
  refine ⟨hQ, e, by omega, fun hb => ?_⟩
  refine (is_quot p ((trial hy e).2 ?_) (by omega)).symm
  have h1 : (Q - 1) * Y0 ≤ 4294967296 * 4294967295 := Nat.mul_le_mul (by omega) (by omega)
  have h2 : 4294967296 * 4294967296 ≤ 4294967296 * (R + Y1) := Nat.mul_le_mul_left _ hb
  omega
/-- A trial that is not too great is the digit. -/
theorem stop {U d Y Y1 Y0 Q R : Nat} (hy : Y = Y1 * 4294967296 + Y0) (hU : U < Y) (i1 : Q * Y1 + R = U) (i2 : (U * 4294967296 + d) / Y ≤ Q) (hc : Q * Y0 ≤ 4294967296 * R + d) :
    (U * 4294967296 + d) / Y = Q :=
  (is_quot (by omega) ((trial hy i1).2 hc) i2).symm
theorem mul_fits {Q Y0 : Nat} (h : Q ≤ 4294967297) (hy : Y0 < 4294967296) : Go.IntKind.u64.wrap ((Q : Int) * (Y0 : Int)) = ((Q * Y0 : Nat) : Int) := by
  have h1 : Q * Y0 ≤ 4294967297 * 4294967295 := Nat.mul_le_mul h (by omega)
  rw [← Int.natCast_mul, Go.IntKind.wrap_u64]
  generalize Q * Y0 = a at *
  omega
end PKnuth
