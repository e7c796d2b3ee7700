/-
  RateAll: prorated by so many of as many as there are it is all; by none, none; a part and the rest, by Down and by Up, are the amount.
-/
import Derived.Test.YtkbfhmdkcfbbgaaRatePro
import Derived.Test.YtkbfhmdkcfbbgaaLaw03Sums
namespace Go.Proofs.Ytkbfhmdkcfbbgaa
open Go.RowKit

theorem prP_in {a p q m : Int} (h0 : 1 ≤ q) (h1 : 0 ≤ p) (h2 : p ≤ q) : prP a p q m = md a p q m := by unfold prP; rw [if_pos ⟨h0, h1, h2⟩]
theorem pr_mode {a p q : Int} (m : Nat) (hm : m ≤ 3) (ha : 0 ≤ a) (ha' : a ≤ 9223372036854775807) (hq : 1 ≤ q) (hp : 0 ≤ p) (hp' : p ≤ q) : prP a p q m = (((PDigs.rounded m (a.toNat * p.toNat) q.toNat : Nat) : Int), 0) := by
  rw [prP_in hq hp hp']
  have := md_part a.toNat p.toNat q.toNat m (by omega) (by omega) (by omega) hm
  rw [Int.toNat_of_nonneg ha, Int.toNat_of_nonneg hp, Int.toNat_of_nonneg (show 0 ≤ q by omega)] at this
  exact this

set_option maxHeartbeats 1600000 in
theorem all_in (a p0 q0 p x y : Int) (w : World) (ha : 0 ≤ a) (ha' : a ≤ 18446744073709551615) (hp : 0 ≤ p0) (hp' : p0 ≤ 4294967295) (hq : 0 ≤ q0) (hq' : q0 ≤ 4294967295)
    (hr : p0.tmod (1 + q0 + 1) = p) (r0 : 0 ≤ p) (r1 : p ≤ 1 + q0)
    (h1 : prP (a / 2) (1 + q0) (1 + q0) 2 = (a / 2, 0)) (h2 : prP (a / 2) 0 (1 + q0) 1 = (0, 0)) (h3 : prP (a / 2) p (1 + q0) 0 = (x, 0)) (h4 : prP (a / 2) (1 + q0 - p) (1 + q0) 1 = (y, 0))
    (e : x + y = a / 2) (x0 : 0 ≤ x) (y0 : 0 ≤ y) :
    Calls Try.prog 6 #[.int .u64 a, .int .u32 p0, .int .u32 q0] w fun e w' => e = .returned (.bool true) ∧ Below w.heap.size w w' := by
  have M1 := Lib.hid (prorate_at h1 (by omega) (by omega) (by omega))
  have M2 := Lib.hid (prorate_at h2 (by omega) (by omega) (by omega))
  have M3 := Lib.hid (prorate_at h3 (by omega) (by omega) (by omega))
  have M4 := Lib.hid (prorate_at h4 (by omega) (by omega) (by omega))
  have hxy : x + y ≤ 9223372036854775807 := by omega
  have eb : (x + y == a / 2) = true := by rw [beq_iff_eq]; exact e
  have HR := Lib.hid hr
  clear h1 h2 h3 h4 e hr
  go_enter Try.func6, Try.ntmps6
  go_wp2_with fail
  first | rw [HR.out] | rw [show p0 % (1 + q0 + 1) = p by rw [← HR.out, Int.tmod_eq_emod_of_nonneg hp]]
  refine (M1.out _).mono ?_
  rintro _ w1 ⟨rfl, b1⟩
  go_wp2_with fail
  refine (M2.out _).mono ?_
  rintro _ w2 ⟨rfl, b2⟩
  go_wp2_with fail
  refine (M3.out _).mono ?_
  rintro _ w3 ⟨rfl, b3⟩
  go_wp2_with fail
  refine (M4.out _).mono ?_
  rintro _ w4 ⟨rfl, b4⟩
  go_wp2_with fail
  refine (awake_any _).mono ?_
  rintro _ w5 ⟨rfl, b5⟩
  go_wp2
  go_ret
  exact ⟨rfl, below_step (below_step (below_step (below_step b1 b2) b3) b4) b5⟩

theorem all_walk (a p0 q0 : Int) (w : World) (ha : (Lit.int .u64 a).wf = true) (hp : (Lit.int .u32 p0).wf = true) (hq : (Lit.int .u32 q0).wf = true) :
    Calls Try.prog 6 #[.int .u64 a, .int .u32 p0, .int .u32 q0] w fun e w' => e = .returned (.bool true) ∧ Below w.heap.size w w' := by
  have ha := u64_bounds ha; have hp := u32_bounds hp; have hq := u32_bounds hq
  obtain ⟨p, hr⟩ : ∃ p, p0.tmod (1 + q0 + 1) = p := ⟨_, rfl⟩
  have hr' : p0 % (1 + q0 + 1) = p := by rw [← hr, Int.tmod_eq_emod_of_nonneg hp.1]
  have r0 : 0 ≤ p := by rw [← hr']; exact Int.emod_nonneg _ (by omega)
  have r1 : p < 1 + q0 + 1 := by rw [← hr']; exact Int.emod_lt_of_pos _ (by omega)
  have m1 := (prP_in (a := a / 2) (m := 2) (show 1 ≤ 1 + q0 by omega) (by omega) (Int.le_refl _)).trans (md_whole (a / 2) (1 + q0) 2 (by omega) (by omega) (by omega) (by omega) (by omega))
  have m2 := (prP_in (a := a / 2) (p := 0) (m := 1) (show 1 ≤ 1 + q0 by omega) (by omega) (by omega)).trans (md_none (a / 2) (1 + q0) 1 (by omega) (by omega) (by omega) (by omega) (by omega))
  have m3 := pr_mode (a := a / 2) (p := p) (q := 1 + q0) 0 (by omega) (by omega) (by omega) (by omega) (by omega) (by omega)
  have m4 := pr_mode (a := a / 2) (p := 1 + q0 - p) (q := 1 + q0) 1 (by omega) (by omega) (by omega) (by omega) (by omega) (by omega)
  rw [show (1 + q0 - p).toNat = (1 + q0).toNat - p.toNat by omega] at m4
  rw [PDigs.rounded_down] at m3
  have hd := PDigs.down_up (a / 2).toNat p.toNat (1 + q0).toNat (by omega) (by omega)
  generalize (a / 2).toNat * p.toNat / (1 + q0).toNat = x at *
  generalize PDigs.rounded 1 ((a / 2).toNat * ((1 + q0).toNat - p.toNat)) (1 + q0).toNat = y at *
  exact all_in a p0 q0 p x y w ha.1 ha.2 hp.1 hp.2 hq.1 hq.2 hr r0 (by omega) m1 m2 m3 m4 (by omega) (by omega) (by omega)
end Go.Proofs.Ytkbfhmdkcfbbgaa
