/-
  RateHalves: a part and what is left, by Down and by Up, are the amount; a part of more is not less.
-/
import Derived.Test.YtkbfhmdkcfbbgaaLaw03Sums
namespace Go.Proofs.Ytkbfhmdkcfbbgaa
open Go.RowKit

set_option maxHeartbeats 1600000 in
theorem halves_in (a b mo x y z v : Int) (w : World) (ha : 0 ≤ a) (ha' : a ≤ 18446744073709551615) (hb : 0 ≤ b) (hb' : b ≤ 65535) (hm : 0 ≤ mo) (hm' : mo ≤ 65535)
    (h1 : ofP (a / 2) (b % 10001) 0 = (x, 0)) (h2 : ofP (a / 2) (10000 - b % 10001) 1 = (y, 0)) (h3 : ofP (a / 2) (min (b % 10001 + mo) 10000) 3 = (z, 0)) (h4 : ofP (a / 2) (b % 10001) 3 = (v, 0))
    (e : x + y = a / 2) (x0 : 0 ≤ x) (y0 : 0 ≤ y) (hle : v ≤ z) :
    Calls Try.prog 5 #[.int .u64 a, .int .u16 b, .int .u16 mo] w fun e w' => e = .returned (.bool true) ∧ Below w.heap.size w w' := by
  have M1 := Lib.hid (of_at h1 (by omega) (by omega))
  have M2 := Lib.hid (of_at h2 (by omega) (by omega))
  have M3 := Lib.hid (of_at h3 (by omega) (by omega))
  have M4 := Lib.hid (of_at h4 (by omega) (by omega))
  have hxy : x + y ≤ 9223372036854775807 := by omega
  have eb : (x + y == a / 2) = true := by rw [beq_iff_eq]; exact e
  clear h1 h2 h3 h4 e
  go_enter Try.func5, Try.ntmps5
  go_wp2_with fail
  refine (M1.out _).mono ?_
  rintro _ w1 ⟨rfl, b1⟩
  go_wp2_with fail
  refine (M2.out _).mono ?_
  rintro _ w2 ⟨rfl, b2⟩
  go_wp2_with fail
  refine (M3.out _).mono ?_
  rintro _ w3 ⟨rfl, b3⟩
  go_wp2_with fail
  refine (M4.out _).mono ?_
  rintro _ w4 ⟨rfl, b4⟩
  go_wp2_with fail
  refine (awake_any _).mono ?_
  rintro _ w5 ⟨rfl, b5⟩
  go_wp2
  go_ret
  exact ⟨rfl, below_step (below_step (below_step (below_step b1 b2) b3) b4) b5⟩

theorem halves_walk (a b mo : Int) (w : World) (ha : (Lit.int .u64 a).wf = true) (hb : (Lit.int .u16 b).wf = true) (hm : (Lit.int .u16 mo).wf = true) :
    Calls Try.prog 5 #[.int .u64 a, .int .u16 b, .int .u16 mo] w fun e w' => e = .returned (.bool true) ∧ Below w.heap.size w w' := by
  have ha := u64_bounds ha; have hb := u16_bounds hb; have hm := u16_bounds hm
  have m1 := of_down (a := a / 2) (b := b % 10001) (by omega) (by omega) (by omega) (by omega)
  have m2 := of_mode (a := a / 2) (b := 10000 - b % 10001) 1 (by omega) (by omega) (by omega) (by omega) (by omega)
  have m3 := of_mode (a := a / 2) (b := min (b % 10001 + mo) 10000) 3 (by omega) (by omega) (by omega) (by omega) (by omega)
  have m4 := of_mode (a := a / 2) (b := b % 10001) 3 (by omega) (by omega) (by omega) (by omega) (by omega)
  rw [show (10000 - b % 10001).toNat = 10000 - (b % 10001).toNat by omega] at m2
  have hd := PDigs.down_up (a / 2).toNat (b % 10001).toNat 10000 (by omega) (by omega)
  have hmono := PDigs.rounded_mono 3 (C := 10000) (Nat.mul_le_mul_left (a / 2).toNat (show (b % 10001).toNat ≤ (min (b % 10001 + mo) 10000).toNat by omega))
  generalize (a / 2).toNat * (b % 10001).toNat / 10000 = x at *
  generalize PDigs.rounded 1 ((a / 2).toNat * (10000 - (b % 10001).toNat)) 10000 = y at *
  generalize PDigs.rounded 3 ((a / 2).toNat * (min (b % 10001 + mo) 10000).toNat) 10000 = z at *
  generalize PDigs.rounded 3 ((a / 2).toNat * (b % 10001).toNat) 10000 = v at *
  exact halves_in a b mo x y z v w ha.1 ha.2 hb.1 hb.2 hm.1 hm.2 m1 m2 m3 m4 (by omega) (by omega) (by omega) (by omega)
end Go.Proofs.Ytkbfhmdkcfbbgaa
