/-
  What the landed package wide answers: MulDiv and Cmp, over any numbers.
-/
import Derived.Test.YtmmgejgmlhhfdaaBitsDiv
import Derived.Test.YtmmgejgmlhhfdaaDivMath
namespace Go.Proofs.Ytmmgejgmlhhfdaa
open Go.RowKit

theorem isnan_u64 (x : Int) (w : World) : Calls Try.prog 85 #[.int .u64 x] w fun e w' => e = .returned (.bool false) ∧ w = w' := by
  go_enter Try.func85, Try.ntmps85
  go_wp2
  go_ret
  exact ⟨rfl, rfl⟩
theorem cmp_u64 (x y : Int) (w : World) : Calls Try.prog 82 #[.int .u64 x, .int .u64 y] w fun e w' => e = .returned (.int .i64 (Lib.compareInt x y)) ∧ w = w' := by
  go_enter Try.func82, Try.ntmps82
  go_wp2_with fail
  refine (isnan_u64 x _).mono ?_
  rintro _ _ ⟨rfl, rfl⟩
  go_wp2_with fail
  refine (isnan_u64 y _).mono ?_
  rintro _ _ ⟨rfl, rfl⟩
  go_wp2
  all_goals (go_ret; refine ⟨?_, rfl⟩; unfold Lib.compareInt; (repeat' split) <;> first | rfl | (exfalso; omega))
theorem cmp_nat (x y : Nat) : Lib.compareInt (x : Int) (y : Int) = PDigs.cmp x y := by
  unfold Lib.compareInt PDigs.cmp
  (repeat' split) <;> first | rfl | (exfalso; omega)
theorem cmp_int (x y : Int) (w : World) : Calls Try.prog 68 #[.int .i64 x, .int .i64 y] w fun e w' => e = .returned (.int .i64 (Lib.compareInt x y)) ∧ w = w' :=
  (Try.cmp_Compare_int x y w).mono fun _ _ ⟨h, k⟩ => ⟨h, k.symm⟩
theorem sign_any (a : Int) (w : World) : Calls Try.prog 65 #[.int .i64 a] w fun e w' => e = .returned (.int .i64 a.sign) ∧ w = w' := by
  have H : Hid (Lib.compareInt a 0 = a.sign) := Lib.hid (by
    unfold Lib.compareInt
    split
    · rw [Int.sign_eq_neg_one_of_neg (by omega)]
    · split
      · rw [Int.sign_eq_one_of_pos (by omega)]
      · rw [show a = 0 by omega]; rfl)
  go_enter Try.func65, Try.ntmps65
  go_wp2_with fail
  refine (cmp_int a 0 _).mono ?_
  rintro _ _ ⟨rfl, rfl⟩
  rw [H.out]
  go_wp2_with fail
  go_ret
  exact ⟨rfl, rfl⟩
theorem size_u (a : Int) (w : World) (h : -9223372036854775808 ≤ a) (h' : a ≤ 9223372036854775807) : Calls Try.prog 64 #[.int .i64 a] w fun e w' => e = .returned (.int .u64 (a.natAbs : Int)) ∧ w = w' := by
  go_enter Try.func64, Try.ntmps64
  go_wp2
  · go_ret
    exact ⟨congrArg (fun z => Ending.returned (.int .u64 z)) (by rw [IntKind.wrap_u64, IntKind.wrap_u64]; omega), rfl⟩
  · go_ret
    exact ⟨congrArg (fun z => Ending.returned (.int .u64 z)) (by omega), rfl⟩
theorem right_any (a : Int) (w : World) : Calls Try.prog 62 #[.int .i64 a] w fun e w' => e = .returned (.bool (decide (-9223372036854775807 ≤ a))) ∧ w = w' := by
  go_enter Try.func62, Try.ntmps62
  go_wp2
  go_ret
  exact ⟨rfl, rfl⟩
theorem more0 (n l c : Nat) : PDigs.upB 0 n l c = false := by
  simp [PDigs.upB]
theorem more1 (n l c : Nat) : PDigs.upB 1 n l c = decide (0 < l) := by
  simp [PDigs.upB]
theorem more2 (n l c : Nat) : PDigs.upB 2 n l c = decide (c ≤ l * 2) := by
  by_cases h : c < l * 2
  · simp [PDigs.upB, h]; omega
  · by_cases k : l * 2 = c
    · simp [PDigs.upB, k]
    · simp [PDigs.upB, h, k]; omega
theorem more3 (n l c : Nat) : PDigs.upB 3 n l c = (decide (c < l * 2) || (decide (l * 2 = c) && decide (n % 2 = 1))) := by
  simp [PDigs.upB]

set_option maxHeartbeats 1600000 in
theorem oneMore_any (n l c m : Nat) (w : World) (hl : l < c) (hc : c < 18446744073709551616) (hn : n < 18446744073709551616) (hm : m ≤ 3) :
    Calls Try.prog 78 #[.int .u64 n, .int .u64 l, .int .u64 c, .int .i64 m] w fun e w' => e = .returned (.bool (PDigs.upB m n l c)) ∧ w = w' := by
  have HC := Lib.hid (cmp_nat l (c - l))
  have hsub : ((c - l : Nat) : Int) = (c : Int) - (l : Int) := by omega
  obtain ⟨h, hh⟩ : ∃ h : Int, Lib.compareInt (l : Int) ((c : Int) - (l : Int)) = h := ⟨_, rfl⟩
  have H3 : Hid ((h = -1 ∧ l * 2 < c) ∨ (h = 0 ∧ l * 2 = c) ∨ (h = 1 ∧ c < l * 2)) := Lib.hid (by
    have := HC.out; rw [hsub, hh] at this; rw [this]; unfold PDigs.cmp
    by_cases k : l < c - l
    · rw [if_pos k]; omega
    · rw [if_neg k]
      by_cases k' : l = c - l
      · rw [if_pos k']; omega
      · rw [if_neg k']; omega)
  have HH := Lib.hid hh; clear hh hsub HC
  obtain ⟨u, hu⟩ : ∃ u, PDigs.upB m n l c = u := ⟨_, rfl⟩
  rw [hu]
  have HU := Lib.hid hu; clear hu
  go_enter Try.func78, Try.ntmps78
  go_wp2_with fail
  refine (cmp_u64 _ _ _).mono ?_
  rintro _ _ ⟨rfl, rfl⟩
  rw [HH.out]
  obtain rfl | rfl | rfl | rfl : m = 0 ∨ m = 1 ∨ m = 2 ∨ m = 3 := by omega
  · have := HU.out; rw [more0] at this; subst this
    go_wp2_with fail
    go_ret
    exact ⟨rfl, rfl⟩
  · have := HU.out; rw [more1] at this; subst this
    go_wp2_with fail
    go_ret
    exact ⟨by simp, rfl⟩
  · have := HU.out; rw [more2] at this; subst this
    rcases H3.out with ⟨rfl, k⟩ | ⟨rfl, k⟩ | ⟨rfl, k⟩
    · go_wp2_with fail
      go_ret
      exact ⟨by rw [decide_eq_false (by omega)]; rfl, rfl⟩
    · go_wp2_with fail
      go_ret
      exact ⟨by rw [decide_eq_true (by omega)]; rfl, rfl⟩
    · go_wp2_with fail
      go_ret
      exact ⟨by rw [decide_eq_true (by omega)]; rfl, rfl⟩
  · have := HU.out; rw [more3] at this; subst this
    rcases H3.out with ⟨rfl, k⟩ | ⟨rfl, k⟩ | ⟨rfl, k⟩
    · have HK := Lib.hid k; clear k
      go_wp2_with fail
      go_ret
      exact ⟨by rw [decide_eq_false (p := c < l * 2) (by have := HK.out; omega), decide_eq_false (p := l * 2 = c) (by have := HK.out; omega)]; rfl, rfl⟩
    · have HK := Lib.hid k; clear k
      have hb : Hid (((n : Int) % 2 == 1) = decide (n % 2 = 1)) := Lib.hid (by rw [Bool.eq_iff_iff, beq_iff_eq, decide_eq_true_iff]; omega)
      go_wp2_with fail
      go_ret
      exact ⟨by rw [hb.out, decide_eq_false (p := c < l * 2) (by have := HK.out; omega), decide_eq_true (p := l * 2 = c) (by have := HK.out; omega), Bool.false_or, Bool.true_and]; rfl, rfl⟩
    · have HK := Lib.hid k; clear k
      go_wp2_with fail
      go_ret
      exact ⟨by rw [decide_eq_true (p := c < l * 2) (by have := HK.out; omega)]; rfl, rfl⟩

/-- A size, or that there is none. -/
def sv (r : Nat) : Value := if 9223372036854775807 < r then .tuple #[.int .i64 0, .bool false] else .tuple #[.int .i64 r, .bool true]
theorem sv_no {r : Nat} (h : 9223372036854775807 < r) : sv r = .tuple #[.int .i64 0, .bool false] := by unfold sv; rw [if_pos h]
theorem sv_yes {r : Nat} (h : r ≤ 9223372036854775807) : sv r = .tuple #[.int .i64 r, .bool true] := by unfold sv; rw [if_neg (by omega)]

theorem mul_u64 (x y : Nat) (w : World) (hx : x < 18446744073709551616) (hy : y < 18446744073709551616) :
    Calls Try.prog 76 #[.int .u64 x, .int .u64 y] w fun e w' => e = .returned (.tuple #[.int .u64 ((x * y / 18446744073709551616 : Nat) : Int), .int .u64 ((x * y % 18446744073709551616 : Nat) : Int)]) ∧ w = w' :=
  (Try.bits_Mul64 x y hx hy w).mono fun _ _ ⟨h, k⟩ => ⟨h, k.symm⟩

theorem rounded_ge (m P c : Nat) : P / c ≤ PDigs.rounded m P c := by unfold PDigs.rounded; split <;> omega

set_option maxHeartbeats 1600000 in
theorem sizes_any (a b c m : Nat) (w : World) (ha : a < 18446744073709551616) (hb : b < 18446744073709551616) (hc : c < 18446744073709551616) (hc0 : 0 < c) (hm : m ≤ 3) :
    Calls Try.prog 63 #[.int .u64 a, .int .u64 b, .int .u64 c, .int .i64 m] w fun e w' => e = .returned (sv (PDigs.rounded m (a * b) c)) ∧ Below w.heap.size w w' := by
  obtain ⟨P, hP⟩ : ∃ P, a * b = P := ⟨_, rfl⟩
  obtain ⟨hi, hhi⟩ : ∃ hi, P / 18446744073709551616 = hi := ⟨_, rfl⟩
  obtain ⟨lo, hlo⟩ : ∃ lo, P % 18446744073709551616 = lo := ⟨_, rfl⟩
  have M := Lib.hid (mul_u64 a b w ha hb)
  rw [hP, hhi, hlo] at M
  rw [hP]
  have hl : lo < 18446744073709551616 := by omega
  have HD : Hid (hi * 18446744073709551616 + lo = P) := Lib.hid (by omega)
  clear hP hhi hlo
  by_cases hbig : c ≤ hi
  · have HN : Hid (sv (PDigs.rounded m P c) = .tuple #[.int .i64 0, .bool false]) := Lib.hid (sv_no (Nat.lt_of_lt_of_le ((Nat.lt_div_iff_mul_lt hc0).2 (by have := HD.out; omega)) (rounded_ge m P c)))
    go_enter Try.func63, Try.ntmps63
    go_wp2_with fail
    refine M.out.mono ?_
    rintro _ _ ⟨rfl, rfl⟩
    go_wp2_with fail
    go_ret2
    exact ⟨by rw [HN.out]; rfl, Below.refl _ _⟩
  · have D := Lib.hid (div64_any hi lo c w (by omega) hc hl)
    rw [HD.out] at D
    have hlt : P % c < c := Nat.mod_lt _ hc0
    have HR : Hid (PDigs.rounded m P c = P / c + if PDigs.upB m (P / c) (P % c) c = true then 1 else 0) := Lib.hid rfl
    generalize PDigs.rounded m P c = r at *
    have hn : P / c < 18446744073709551616 := by rw [← HD.out]; exact Nat.div_lt_of_lt_mul (by have := Nat.mul_le_mul_left 18446744073709551616 (show hi + 1 ≤ c by omega); omega)
    generalize P / c = n at *
    generalize P % c = l at *
    obtain ⟨x, hx⟩ : ∃ x : Int, (n : Int) = x := ⟨_, rfl⟩
    have O := fun w => oneMore_any n l c m w hlt hc hn hm
    obtain ⟨u, hu⟩ : ∃ u, PDigs.upB m n l c = u := ⟨_, rfl⟩
    rw [hu] at HR
    simp only [hu] at O
    have OO := Lib.hid O; clear O
    have x0 : 0 ≤ x := by omega
    rw [hx] at D OO
    have HX := Lib.hid hx; clear hx hu HD
    by_cases hbig2 : 9223372036854775807 < x
    · have HN : Hid (sv r = .tuple #[.int .i64 0, .bool false]) := Lib.hid (sv_no (by have := HR.out; have := HX.out; omega))
      go_enter Try.func63, Try.ntmps63
      go_wp2_with fail
      refine M.out.mono ?_
      rintro _ _ ⟨rfl, rfl⟩
      go_wp2_with fail
      refine D.out.mono ?_
      rintro _ w1 ⟨rfl, b1⟩
      go_wp2_with fail
      go_ret2
      exact ⟨by rw [HN.out]; rfl, b1⟩
    · cases u
      · have HN : Hid (sv r = .tuple #[.int .i64 x, .bool true]) := Lib.hid (by
          obtain rfl : r = n := by have := HR.out; simpa using this
          rw [sv_yes (by have := HX.out; omega), HX.out])
        go_enter Try.func63, Try.ntmps63
        go_wp2_with fail
        refine M.out.mono ?_
        rintro _ _ ⟨rfl, rfl⟩
        go_wp2_with fail
        refine D.out.mono ?_
        rintro _ w1 ⟨rfl, b1⟩
        go_wp2_with fail
        refine (OO.out _).mono ?_
        rintro _ _ ⟨rfl, rfl⟩
        go_wp2_with fail
        go_ret2
        exact ⟨by rw [HN.out]; rfl, b1⟩
      · have hr : r = n + 1 := by have := HR.out; simpa using this
        by_cases h3 : x = 9223372036854775807
        · have HN : Hid (sv r = .tuple #[.int .i64 0, .bool false]) := Lib.hid (sv_no (by have := HX.out; omega))
          subst h3
          clear hr
          go_enter Try.func63, Try.ntmps63
          go_wp2_with fail
          refine M.out.mono ?_
          rintro _ _ ⟨rfl, rfl⟩
          go_wp2_with fail
          refine D.out.mono ?_
          rintro _ w1 ⟨rfl, b1⟩
          go_wp2_with fail
          refine (OO.out _).mono ?_
          rintro _ _ ⟨rfl, rfl⟩
          go_wp2_with fail
          go_ret2
          exact ⟨by rw [HN.out]; rfl, b1⟩
        · have HN : Hid (sv r = .tuple #[.int .i64 (x + 1), .bool true]) := Lib.hid (by
            subst hr
            rw [sv_yes (by have := HX.out; omega), ← HX.out]; rfl)
          clear hr
          have h4 : x < 9223372036854775807 := by omega
          clear h3
          go_enter Try.func63, Try.ntmps63
          go_wp2_with fail
          refine M.out.mono ?_
          rintro _ _ ⟨rfl, rfl⟩
          go_wp2_with fail
          refine D.out.mono ?_
          rintro _ w1 ⟨rfl, b1⟩
          go_wp2_with fail
          refine (OO.out _).mono ?_
          rintro _ _ ⟨rfl, rfl⟩
          go_wp2_with fail
          go_ret2
          exact ⟨by rw [HN.out]; rfl, b1⟩
end Go.Proofs.Ytmmgejgmlhhfdaa
