/-
  RateSums: parts by two rates, Down, are not more than the part by both, added, and at most 1 less.
-/
import Derived.Test.YtkbfhmdkcfbbgaaLaw03Parts
namespace Go.Proofs.Ytkbfhmdkcfbbgaa
open Go.RowKit

/-- A part of an amount from 0 on, Down. -/
theorem of_down {a b : Int} (ha : 0 ≤ a) (ha' : a ≤ 9223372036854775807) (hb : 0 ≤ b) (hb' : b ≤ 10000) : ofP a b 0 = (((a.toNat * b.toNat / 10000 : Nat) : Int), 0) := by
  rw [ofP_in hb hb']
  have := md_part a.toNat b.toNat 10000 0 (by omega) (by omega) (by omega) (by omega)
  rw [PDigs.rounded_down, Int.toNat_of_nonneg ha, Int.toNat_of_nonneg hb] at this
  exact this
/-- .. by any mode. -/
theorem of_mode {a b : Int} (m : Nat) (hm : m ≤ 3) (ha : 0 ≤ a) (ha' : a ≤ 9223372036854775807) (hb : 0 ≤ b) (hb' : b ≤ 10000) : ofP a b m = (((PDigs.rounded m (a.toNat * b.toNat) 10000 : Nat) : Int), 0) := by
  rw [ofP_in hb hb']
  have := md_part a.toNat b.toNat 10000 m (by omega) (by omega) (by omega) hm
  rw [Int.toNat_of_nonneg ha, Int.toNat_of_nonneg hb] at this
  exact this

set_option maxHeartbeats 1600000 in
theorem rsums_in (a x y p q s : Int) (w : World) (ha : 0 ≤ a) (ha' : a ≤ 18446744073709551615) (hx : 0 ≤ x) (hx' : x ≤ 65535) (hy : 0 ≤ y) (hy' : y ≤ 65535)
    (h1 : ofP (a / 2) (x % 5001) 0 = (p, 0)) (h2 : ofP (a / 2) (y % 5001) 0 = (q, 0)) (h3 : ofP (a / 2) (x % 5001 + y % 5001) 0 = (s, 0))
    (p0 : 0 ≤ p) (q0 : 0 ≤ q) (s0 : s ≤ 9223372036854775807) (s1 : p + q ≤ s) (s2 : s - p - q ≤ 1) :
    Calls Try.prog 7 #[.int .u64 a, .int .u16 x, .int .u16 y] w fun e w' => e = .returned (.bool true) ∧ Below w.heap.size w w' := by
  have M1 := Lib.hid (of_at h1 (by omega) (by omega))
  have M2 := Lib.hid (of_at h2 (by omega) (by omega))
  have M3 := Lib.hid (of_at h3 (by omega) (by omega))
  clear h1 h2 h3
  go_enter Try.func7, Try.ntmps7
  go_wp2_with fail
  refine (M1.out _).mono ?_
  rintro _ w1 ⟨rfl, b1⟩
  go_wp2_with fail
  refine (M2.out _).mono ?_
  rintro _ w2 ⟨rfl, b2⟩
  go_wp2_with fail
  refine (M3.out _).mono ?_
  rintro _ w3 ⟨rfl, b3⟩
  go_wp2_with fail
  refine (awake_any _).mono ?_
  rintro _ w4 ⟨rfl, b4⟩
  go_wp2
  go_ret
  exact ⟨rfl, below_step (below_step (below_step b1 b2) b3) b4⟩

theorem rsums_walk (a x y : Int) (w : World) (ha : (Lit.int .u64 a).wf = true) (hx : (Lit.int .u16 x).wf = true) (hy : (Lit.int .u16 y).wf = true) :
    Calls Try.prog 7 #[.int .u64 a, .int .u16 x, .int .u16 y] w fun e w' => e = .returned (.bool true) ∧ Below w.heap.size w w' := by
  have ha := u64_bounds ha; have hx := u16_bounds hx; have hy := u16_bounds hy
  have m1 := of_down (a := a / 2) (b := x % 5001) (by omega) (by omega) (by omega) (by omega)
  have m2 := of_down (a := a / 2) (b := y % 5001) (by omega) (by omega) (by omega) (by omega)
  have m3 := of_down (a := a / 2) (b := x % 5001 + y % 5001) (by omega) (by omega) (by omega) (by omega)
  rw [Int.toNat_add (by omega) (by omega)] at m3
  have hs := PDigs.sums (a / 2).toNat (x % 5001).toNat (y % 5001).toNat 10000 (by omega)
  have hl : (a / 2).toNat * ((x % 5001).toNat + (y % 5001).toNat) / 10000 ≤ (a / 2).toNat := by
    have := PDigs.part_le 0 (a / 2).toNat ((x % 5001).toNat + (y % 5001).toNat) 10000 (by omega) (by omega)
    rwa [PDigs.rounded_down] at this
  generalize (a / 2).toNat * (x % 5001).toNat / 10000 = p at *
  generalize (a / 2).toNat * (y % 5001).toNat / 10000 = q at *
  generalize (a / 2).toNat * ((x % 5001).toNat + (y % 5001).toNat) / 10000 = s at *
  exact rsums_in a x y p q s w ha.1 ha.2 hx.1 hx.2 hy.1 hy.2 m1 m2 m3 (by omega) (by omega) (by omega) (by omega) (by omega)
end Go.Proofs.Ytkbfhmdkcfbbgaa
