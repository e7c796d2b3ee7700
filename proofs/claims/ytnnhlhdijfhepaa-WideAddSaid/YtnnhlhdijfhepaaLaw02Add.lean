/-
  WideAdd: by the same divisor, Down, quotients of two numbers are not more than that of their sum, added, and at most 1 less.
-/
import Derived.Test.YtnnhlhdijfhepaaLaw02Math
namespace Go.Proofs.Ytnnhlhdijfhepaa
open Go.RowKit

set_option maxHeartbeats 1600000 in
theorem add_in (a b c p q s : Int) (w : World) (ha : 0 ≤ a) (ha' : a ≤ 18446744073709551615) (hb : 0 ≤ b) (hb' : b ≤ 18446744073709551615) (hc : 0 ≤ c) (hc' : c ≤ 18446744073709551615)
    (hp : md (a / 16) 1 (1 + c / 16) 0 = (p, 0)) (hq : md (b / 16) 1 (1 + c / 16) 0 = (q, 0)) (hs : md (a / 16 + b / 16) 1 (1 + c / 16) 0 = (s, 0))
    (e : (a / 16) / (1 + c / 16) = p) (p0 : 0 ≤ p) (p1 : p ≤ 1152921504606846976) (q0 : 0 ≤ q) (q1 : q ≤ 1152921504606846976) (s1 : p + q ≤ s) (s2 : s - p - q ≤ 1) :
    Calls Try.prog 10 #[.int .u64 a, .int .u64 b, .int .u64 c] w fun e w' => e = .returned (.bool true) ∧ Below w.heap.size w w' := by
  have P := Lib.hid (muldiv_at hp (by omega) (by omega) (by omega) (by omega) (by omega) (by omega))
  have Q := Lib.hid (muldiv_at hq (by omega) (by omega) (by omega) (by omega) (by omega) (by omega))
  have S := Lib.hid (muldiv_at hs (by omega) (by omega) (by omega) (by omega) (by omega) (by omega))
  have eb : (p == a / 16 / (1 + c / 16)) = true := by rw [beq_iff_eq]; exact e.symm
  clear hp hq hs e
  go_enter Try.func10, Try.ntmps10
  go_wp2_with fail
  refine (P.out _).mono ?_
  rintro _ w1 ⟨rfl, b1⟩
  go_wp2_with fail
  refine (Q.out _).mono ?_
  rintro _ w2 ⟨rfl, b2⟩
  go_wp2_with fail
  refine (S.out _).mono ?_
  rintro _ w3 ⟨rfl, b3⟩
  go_wp2_with fail
  refine (awake_any _).mono ?_
  rintro _ w4 ⟨rfl, b4⟩
  go_wp2
  go_ret
  exact ⟨rfl, below_step (below_step (below_step b1 b2) b3) b4⟩

theorem md_down (x z : Nat) (hx : x ≤ 9223372036854775807) (hz : 0 < z) : md x 1 z 0 = (((x / z : Nat) : Int), 0) := by
  have h := md_nat x 1 z 0 hz (by omega)
  rw [PDigs.rounded_down, Nat.mul_one, if_neg (Nat.not_lt.2 (Nat.le_trans (Nat.div_le_self _ _) hx))] at h
  exact h
theorem add_walk (a b c : Int) (w : World) (ha : (Lit.int .u64 a).wf = true) (hb : (Lit.int .u64 b).wf = true) (hc : (Lit.int .u64 c).wf = true) :
    Calls Try.prog 10 #[.int .u64 a, .int .u64 b, .int .u64 c] w fun e w' => e = .returned (.bool true) ∧ Below w.heap.size w w' := by
  obtain ⟨ha, ha'⟩ := u64_bounds ha; obtain ⟨hb, hb'⟩ := u64_bounds hb; obtain ⟨hc, hc'⟩ := u64_bounds hc
  obtain ⟨x, hx⟩ : ∃ x : Nat, a / 16 = x := ⟨(a / 16).toNat, by omega⟩
  obtain ⟨y, hy⟩ : ∃ y : Nat, b / 16 = y := ⟨(b / 16).toNat, by omega⟩
  obtain ⟨z, hz⟩ : ∃ z : Nat, 1 + c / 16 = z := ⟨(1 + c / 16).toNat, by omega⟩
  have z0 : 0 < z := by omega
  have x1 : x ≤ 1152921504606846976 := by omega
  have y1 : y ≤ 1152921504606846976 := by omega
  have h1 : x / z + y / z ≤ (x + y) / z := by
    rw [Nat.add_div z0]; split <;> omega
  have h2 : (x + y) / z ≤ x / z + y / z + 1 := by
    rw [Nat.add_div z0]; split <;> omega
  have h3 := Nat.div_le_self x z
  have h4 := Nat.div_le_self y z
  have m1 := md_down x z (by omega) z0
  have m2 := md_down y z (by omega) z0
  have m3 := md_down (x + y) z (by omega) z0
  have ex : (x : Int) / (z : Int) = ((x / z : Nat) : Int) := (Int.natCast_ediv x z).symm
  generalize x / z = p at *
  generalize y / z = q at *
  generalize (x + y) / z = s at *
  refine add_in a b c p q s w ha ha' hb hb' hc hc' (by rw [hx, hz]; exact m1) (by rw [hy, hz]; exact m2) (by rw [hx, hy, hz, ← Int.natCast_add]; exact m3) (by rw [hx, hz]; exact ex) (by omega) (by omega) (by omega) (by omega) (by omega) (by omega)
end Go.Proofs.Ytnnhlhdijfhepaa
