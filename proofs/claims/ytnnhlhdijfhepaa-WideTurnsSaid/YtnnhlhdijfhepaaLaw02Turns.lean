/-
  WideTurns: which product is less does not hang on the order of its parts, and turns when the products are changed; both signs turned turn nothing.
-/
import Derived.Test.YtnnhlhdijfhepaaLaw02Awake
namespace Go.Proofs.Ytnnhlhdijfhepaa
open Go.RowKit

theorem compare_range (x y : Int) : -1 ≤ Lib.compareInt x y ∧ Lib.compareInt x y ≤ 1 := by unfold Lib.compareInt; (repeat' split) <;> omega
theorem compare_swap (x y : Int) : Lib.compareInt y x = -Lib.compareInt x y := by unfold Lib.compareInt; (repeat' split) <;> omega
theorem compare_neg (x y : Int) : Lib.compareInt (-x) (-y) = -Lib.compareInt x y := by unfold Lib.compareInt; (repeat' split) <;> omega
theorem compare_self (x : Int) : Lib.compareInt x x = 0 := by unfold Lib.compareInt; (repeat' split) <;> omega

/-- What Cmp answers, called so. -/
theorem wcmp_at {a b c d k : Int} (h : Lib.compareInt (a * b) (c * d) = k) (ha : -9223372036854775808 ≤ a) (ha' : a ≤ 9223372036854775807) (hb : -9223372036854775808 ≤ b) (hb' : b ≤ 9223372036854775807) (hc : -9223372036854775808 ≤ c) (hc' : c ≤ 9223372036854775807) (hd : -9223372036854775808 ≤ d) (hd' : d ≤ 9223372036854775807) (w : World) :
    Calls Try.prog 17 #[.int .i64 a, .int .i64 b, .int .i64 c, .int .i64 d] w fun e w' => e = .returned (.int .i64 k) ∧ w = w' := by
  subst h
  exact wcmp_any a b c d w ha ha' hb hb' hc hc' hd hd'

set_option maxHeartbeats 1600000 in
theorem turns_in (a b c d : Int) (w : World) (ha : -9223372036854775807 ≤ a) (ha' : a ≤ 9223372036854775807) (hb : -9223372036854775807 ≤ b) (hb' : b ≤ 9223372036854775807) (hc : -9223372036854775807 ≤ c) (hc' : c ≤ 9223372036854775807) (hd : -9223372036854775807 ≤ d) (hd' : d ≤ 9223372036854775807) :
    Calls Try.prog 8 #[.int .i64 a, .int .i64 b, .int .i64 c, .int .i64 d] w fun e w' => e = .returned (.bool true) ∧ Below w.heap.size w w' := by
  obtain ⟨k, hk⟩ : ∃ k, Lib.compareInt (a * b) (c * d) = k := ⟨_, rfl⟩
  have C1 := Lib.hid (wcmp_at hk (by omega) ha' (by omega) hb' (by omega) hc' (by omega) hd')
  have C2 := Lib.hid (wcmp_at (show Lib.compareInt (b * a) (d * c) = k by rw [Int.mul_comm b, Int.mul_comm d]; exact hk) (by omega) hb' (by omega) ha' (by omega) hd' (by omega) hc')
  have C3 := Lib.hid (wcmp_at (show Lib.compareInt (c * d) (a * b) = -k by rw [compare_swap, hk]) (by omega) hc' (by omega) hd' (by omega) ha' (by omega) hb')
  have C4 := Lib.hid (wcmp_at (show Lib.compareInt (-a * -b) (c * d) = k by rw [Int.neg_mul_neg]; exact hk) (by omega) (by omega) (by omega) (by omega) (by omega) hc' (by omega) hd')
  have C5 := Lib.hid (wcmp_at (show Lib.compareInt (-a * b) (-c * d) = -k by rw [Int.neg_mul, Int.neg_mul, compare_neg, hk]) (by omega) (by omega) (by omega) hb' (by omega) (by omega) (by omega) hd')
  have C6 := Lib.hid (wcmp_at (compare_self (a * b)) (by omega) ha' (by omega) hb' (by omega) ha' (by omega) hb')
  have hr := compare_range (a * b) (c * d)
  rw [hk] at hr
  obtain ⟨k1, k2⟩ := hr
  clear hk
  have x1 : (a == -9223372036854775808) = false := by rw [beq_eq_false_iff_ne]; omega
  have x2 : (b == -9223372036854775808) = false := by rw [beq_eq_false_iff_ne]; omega
  have x3 : (c == -9223372036854775808) = false := by rw [beq_eq_false_iff_ne]; omega
  have x4 : (d == -9223372036854775808) = false := by rw [beq_eq_false_iff_ne]; omega
  go_enter Try.func8, Try.ntmps8
  go_wp2_with fail
  refine (C1.out _).mono ?_
  rintro _ _ ⟨rfl, rfl⟩
  go_wp2_with fail
  refine (C2.out _).mono ?_
  rintro _ _ ⟨rfl, rfl⟩
  go_wp2_with fail
  refine (C3.out _).mono ?_
  rintro _ _ ⟨rfl, rfl⟩
  go_wp2_with fail
  refine (C4.out _).mono ?_
  rintro _ _ ⟨rfl, rfl⟩
  go_wp2_with fail
  refine (C5.out _).mono ?_
  rintro _ _ ⟨rfl, rfl⟩
  go_wp2_with fail
  refine (C6.out _).mono ?_
  rintro _ _ ⟨rfl, rfl⟩
  go_wp2_with fail
  refine (awake_any _).mono ?_
  rintro _ w1 ⟨rfl, b1⟩
  go_wp2
  go_ret
  exact ⟨rfl, b1⟩

set_option maxHeartbeats 1600000 in
theorem turns_out (a b c d : Int) (w : World) (h : a = -9223372036854775808 ∨ b = -9223372036854775808 ∨ c = -9223372036854775808 ∨ d = -9223372036854775808) :
    Calls Try.prog 8 #[.int .i64 a, .int .i64 b, .int .i64 c, .int .i64 d] w fun e w' => e = .returned (.bool true) ∧ Below w.heap.size w w' := by
  have H := Lib.hid h; clear h
  go_enter Try.func8, Try.ntmps8
  go_wp2_with fail
  all_goals first
    | (refine (awake_any _).mono ?_
       rintro _ w1 ⟨rfl, b1⟩
       go_wp2
       go_ret
       exact ⟨rfl, b1⟩)
    | (exfalso
       have := H.out
       simp_all)

theorem turns_walk (a b c d : Int) (w : World) (ha : (Lit.int .i64 a).wf = true) (hb : (Lit.int .i64 b).wf = true) (hc : (Lit.int .i64 c).wf = true) (hd : (Lit.int .i64 d).wf = true) :
    Calls Try.prog 8 #[.int .i64 a, .int .i64 b, .int .i64 c, .int .i64 d] w fun e w' => e = .returned (.bool true) ∧ Below w.heap.size w w' := by
  have ha := i64_bounds ha; have hb := i64_bounds hb; have hc := i64_bounds hc; have hd := i64_bounds hd
  by_cases h : a = -9223372036854775808 ∨ b = -9223372036854775808 ∨ c = -9223372036854775808 ∨ d = -9223372036854775808
  · exact turns_out a b c d w h
  · exact turns_in a b c d w (by omega) (by omega) (by omega) (by omega) (by omega) (by omega) (by omega) (by omega)
end Go.Proofs.Ytnnhlhdijfhepaa
