/-
  WideExact: a product, divided, by any mode, is what the document says, or refused.
-/
import Derived.Test.YtnnhlhdijfhepaaLaw02Awake
import Derived.Test.YtnnhlhdijfhepaaRef02Div
namespace Go.Proofs.Ytnnhlhdijfhepaa
open Go.RowKit

theorem refright_yes (a : Int) (w : World) (h : -9223372036854775807 ≤ a) : Calls Try.prog 12 #[.int .i64 a] w fun e w' => e = .returned (.bool true) ∧ w = w' :=
  (refright_any a w).mono fun _ _ ⟨k, l⟩ => ⟨by rw [k, show (a != -9223372036854775808) = true by rw [bne_iff_ne]; omega], l⟩
theorem refright_no (a : Int) (w : World) (h : a = -9223372036854775808) : Calls Try.prog 12 #[.int .i64 a] w fun e w' => e = .returned (.bool false) ∧ w = w' :=
  (refright_any a w).mono fun _ _ ⟨k, l⟩ => ⟨by rw [k, show (a != -9223372036854775808) = false by rw [bne_eq_false_iff_eq]; exact h], l⟩

theorem rounded_zero (m c : Nat) (h : 0 < c) : PDigs.rounded m 0 c = 0 := by
  unfold PDigs.rounded
  rw [Nat.zero_div, Nat.zero_mod, if_neg]
  simp [PDigs.upB]
  omega
/-- Both ways to tell the sign. -/
theorem sign_both (a b c : Int) (m : Nat) (hc : c ≠ 0) :
    (if (((decide (a < 0) != decide (b < 0)) && decide (0 < a.natAbs * b.natAbs)) != decide (c < 0)) = true then -((PDigs.rounded m (a.natAbs * b.natAbs) c.natAbs : Nat) : Int) else ((PDigs.rounded m (a.natAbs * b.natAbs) c.natAbs : Nat) : Int)) =
    (if a.sign * b.sign * c.sign < 0 then -((PDigs.rounded m (a.natAbs * b.natAbs) c.natAbs : Nat) : Int) else ((PDigs.rounded m (a.natAbs * b.natAbs) c.natAbs : Nat) : Int)) := by
  by_cases h0 : a.natAbs * b.natAbs = 0
  · rw [h0, rounded_zero m _ (by omega)]; simp
  · have hp : 0 < a.natAbs * b.natAbs := Nat.pos_of_ne_zero h0
    have ha : a ≠ 0 := fun h => h0 (by rw [h]; simp)
    have hb : b ≠ 0 := fun h => h0 (by rw [h]; simp)
    rw [decide_eq_true hp, Bool.and_true]
    generalize PDigs.rounded m (a.natAbs * b.natAbs) c.natAbs = r
    rcases Int.lt_or_gt_of_ne ha with ka | ka <;> rcases Int.lt_or_gt_of_ne hb with kb | kb <;> rcases Int.lt_or_gt_of_ne hc with kc | kc <;>
      simp [ka, kb, kc, Int.sign_eq_neg_one_of_neg, Int.sign_eq_one_of_pos, Int.not_lt.2 (Int.le_of_lt ka), Int.not_lt.2 (Int.le_of_lt kb), Int.not_lt.2 (Int.le_of_lt kc)]

set_option maxHeartbeats 800000 in
theorem exact_mode (a b c m : Int) (w : World) (ha : -9223372036854775808 ≤ a) (ha' : a ≤ 9223372036854775807) (hb : -9223372036854775808 ≤ b) (hb' : b ≤ 9223372036854775807) (hc : -9223372036854775808 ≤ c) (hc' : c ≤ 9223372036854775807) (h : m < 0 ∨ 3 < m) :
    Calls Try.prog 3 #[.int .i64 a, .int .i64 b, .int .i64 c, .int .i64 m] w fun e w' => e = .returned (.bool true) ∧ Below w.heap.size w w' := by
  have M := Lib.hid (muldiv_at (show md a b c m = (0, 1) by unfold md; rw [if_pos h]) ha ha' hb hb' hc hc')
  rcases h with h | h
  · go_enter Try.func3, Try.ntmps3
    go_wp2_with fail
    refine (M.out _).mono ?_
    rintro _ w1 ⟨rfl, b1⟩
    go_wp2_with fail
    refine (awake_any _).mono ?_
    rintro _ w2 ⟨rfl, b2⟩
    go_wp2
    go_ret
    exact ⟨rfl, below_step b1 b2⟩
  · go_enter Try.func3, Try.ntmps3
    go_wp2_with fail
    refine (M.out _).mono ?_
    rintro _ w1 ⟨rfl, b1⟩
    go_wp2_with fail
    refine (awake_any _).mono ?_
    rintro _ w2 ⟨rfl, b2⟩
    go_wp2
    go_ret
    exact ⟨rfl, below_step b1 b2⟩

set_option maxHeartbeats 1600000 in
theorem exact_limit (a b c m : Int) (w : World) (ha : -9223372036854775808 ≤ a) (ha' : a ≤ 9223372036854775807) (hb : -9223372036854775808 ≤ b) (hb' : b ≤ 9223372036854775807) (hc : -9223372036854775808 ≤ c) (hc' : c ≤ 9223372036854775807) (h0 : 0 ≤ m) (h1 : m ≤ 3) (h : a < -9223372036854775807 ∨ b < -9223372036854775807 ∨ c < -9223372036854775807) :
    Calls Try.prog 3 #[.int .i64 a, .int .i64 b, .int .i64 c, .int .i64 m] w fun e w' => e = .returned (.bool true) ∧ Below w.heap.size w w' := by
  have M := Lib.hid (muldiv_at (show md a b c m = (0, 3) by unfold md; rw [if_neg (by omega), if_pos h]) ha ha' hb hb' hc hc')
  by_cases ka : a < -9223372036854775807
  · go_enter Try.func3, Try.ntmps3
    go_wp2_with fail
    refine (M.out _).mono ?_
    rintro _ w1 ⟨rfl, b1⟩
    go_wp2_with fail
    refine (refright_no a _ (by omega)).mono ?_
    rintro _ _ ⟨rfl, rfl⟩
    go_wp2_with fail
    refine (awake_any _).mono ?_
    rintro _ w2 ⟨rfl, b2⟩
    go_wp2
    go_ret
    exact ⟨rfl, below_step b1 b2⟩
  · by_cases kb : b < -9223372036854775807
    · go_enter Try.func3, Try.ntmps3
      go_wp2_with fail
      refine (M.out _).mono ?_
      rintro _ w1 ⟨rfl, b1⟩
      go_wp2_with fail
      refine (refright_yes a _ (by omega)).mono ?_
      rintro _ _ ⟨rfl, rfl⟩
      go_wp2_with fail
      refine (refright_no b _ (by omega)).mono ?_
      rintro _ _ ⟨rfl, rfl⟩
      go_wp2_with fail
      refine (awake_any _).mono ?_
      rintro _ w2 ⟨rfl, b2⟩
      go_wp2
      go_ret
      exact ⟨rfl, below_step b1 b2⟩
    · go_enter Try.func3, Try.ntmps3
      go_wp2_with fail
      refine (M.out _).mono ?_
      rintro _ w1 ⟨rfl, b1⟩
      go_wp2_with fail
      refine (refright_yes a _ (by omega)).mono ?_
      rintro _ _ ⟨rfl, rfl⟩
      go_wp2_with fail
      refine (refright_yes b _ (by omega)).mono ?_
      rintro _ _ ⟨rfl, rfl⟩
      go_wp2_with fail
      refine (refright_no c _ (by omega)).mono ?_
      rintro _ _ ⟨rfl, rfl⟩
      go_wp2_with fail
      refine (awake_any _).mono ?_
      rintro _ w2 ⟨rfl, b2⟩
      go_wp2
      go_ret
      exact ⟨rfl, below_step b1 b2⟩

set_option maxHeartbeats 800000 in
theorem exact_zero (a b m : Int) (w : World) (ha : -9223372036854775808 ≤ a) (ha' : a ≤ 9223372036854775807) (hb : -9223372036854775808 ≤ b) (hb' : b ≤ 9223372036854775807) (h0 : 0 ≤ m) (h1 : m ≤ 3) (ka : -9223372036854775807 ≤ a) (kb : -9223372036854775807 ≤ b) :
    Calls Try.prog 3 #[.int .i64 a, .int .i64 b, .int .i64 0, .int .i64 m] w fun e w' => e = .returned (.bool true) ∧ Below w.heap.size w w' := by
  have M := Lib.hid (muldiv_at (show md a b 0 m = (0, 4) by unfold md; rw [if_neg (by omega), if_neg (by omega), if_pos rfl]) ha ha' hb hb' (by omega) (by omega))
  go_enter Try.func3, Try.ntmps3
  go_wp2_with fail
  refine (M.out _).mono ?_
  rintro _ w1 ⟨rfl, b1⟩
  go_wp2_with fail
  refine (refright_yes a _ (by omega)).mono ?_
  rintro _ _ ⟨rfl, rfl⟩
  go_wp2_with fail
  refine (refright_yes b _ (by omega)).mono ?_
  rintro _ _ ⟨rfl, rfl⟩
  go_wp2_with fail
  refine (refright_yes 0 _ (by omega)).mono ?_
  rintro _ _ ⟨rfl, rfl⟩
  go_wp2_with fail
  refine (awake_any _).mono ?_
  rintro _ w2 ⟨rfl, b2⟩
  go_wp2
  go_ret
  exact ⟨rfl, below_step b1 b2⟩

set_option maxHeartbeats 1600000 in
theorem exact_real (a b c : Int) (m : Nat) (w : World) (ha : -9223372036854775808 ≤ a) (ha' : a ≤ 9223372036854775807) (hb : -9223372036854775808 ≤ b) (hb' : b ≤ 9223372036854775807) (hc : -9223372036854775808 ≤ c) (hc' : c ≤ 9223372036854775807) (h1 : m ≤ 3) (ka : -9223372036854775807 ≤ a) (kb : -9223372036854775807 ≤ b) (kc : -9223372036854775807 ≤ c) (hc0 : c ≠ 0) :
    Calls Try.prog 3 #[.int .i64 a, .int .i64 b, .int .i64 c, .int .i64 m] w fun e w' => e = .returned (.bool true) ∧ Below w.heap.size w w' := by
  have hcb : (c == 0) = false := by rw [beq_eq_false_iff_ne]; exact hc0
  have D := Lib.hid (fun w => refdiv_any a b c m w ha ha' hb hb' hc hc' hc0 h1)
  by_cases hbig : 9223372036854775807 < PDigs.rounded m (a.natAbs * b.natAbs) c.natAbs
  · have M := Lib.hid (muldiv_at (show md a b c m = (0, 3) by unfold md; rw [if_neg (by omega), if_neg (by omega), if_neg hc0, Int.toNat_natCast, if_pos hbig]) ha ha' hb hb' hc hc')
    rw [divAns_no hbig] at D
    clear hbig
    go_enter Try.func3, Try.ntmps3
    go_wp2_with fail
    refine (M.out _).mono ?_
    rintro _ w1 ⟨rfl, b1⟩
    go_wp2_with fail
    refine (refright_yes a _ (by omega)).mono ?_
    rintro _ _ ⟨rfl, rfl⟩
    go_wp2_with fail
    refine (refright_yes b _ (by omega)).mono ?_
    rintro _ _ ⟨rfl, rfl⟩
    go_wp2_with fail
    refine (refright_yes c _ (by omega)).mono ?_
    rintro _ _ ⟨rfl, rfl⟩
    go_wp2_with fail
    refine (D.out _).mono ?_
    rintro _ w9 ⟨rfl, b9⟩
    go_wp2_with fail
    refine (awake_any _).mono ?_
    rintro _ w2 ⟨rfl, b2⟩
    go_wp2
    go_ret
    exact ⟨rfl, below_step (below_step b1 b9) b2⟩
  · obtain ⟨n, hn⟩ : ∃ n, (if a.sign * b.sign * c.sign < 0 then -((PDigs.rounded m (a.natAbs * b.natAbs) c.natAbs : Nat) : Int) else ((PDigs.rounded m (a.natAbs * b.natAbs) c.natAbs : Nat) : Int)) = n := ⟨_, rfl⟩
    have M := Lib.hid (muldiv_at (show md a b c m = (n, 0) by unfold md; rw [if_neg (by omega), if_neg (by omega), if_neg hc0, Int.toNat_natCast, if_neg hbig, hn]) ha ha' hb hb' hc hc')
    rw [divAns_yes hbig ((sign_both a b c m hc0).trans hn)] at D
    clear hbig hn
    go_enter Try.func3, Try.ntmps3
    go_wp2_with fail
    refine (M.out _).mono ?_
    rintro _ w1 ⟨rfl, b1⟩
    go_wp2_with fail
    refine (refright_yes a _ (by omega)).mono ?_
    rintro _ _ ⟨rfl, rfl⟩
    go_wp2_with fail
    refine (refright_yes b _ (by omega)).mono ?_
    rintro _ _ ⟨rfl, rfl⟩
    go_wp2_with fail
    refine (refright_yes c _ (by omega)).mono ?_
    rintro _ _ ⟨rfl, rfl⟩
    go_wp2_with fail
    refine (D.out _).mono ?_
    rintro _ w9 ⟨rfl, b9⟩
    go_wp2_with fail
    refine (awake_any _).mono ?_
    rintro _ w2 ⟨rfl, b2⟩
    go_wp2
    go_ret
    exact ⟨rfl, below_step (below_step b1 b9) b2⟩

theorem exact_walk (a b c m : Int) (w : World) (ha : (Lit.int .i64 a).wf = true) (hb : (Lit.int .i64 b).wf = true) (hc : (Lit.int .i64 c).wf = true) (_ : (Lit.int .i64 m).wf = true) :
    Calls Try.prog 3 #[.int .i64 a, .int .i64 b, .int .i64 c, .int .i64 m] w fun e w' => e = .returned (.bool true) ∧ Below w.heap.size w w' := by
  obtain ⟨ha, ha'⟩ := i64_bounds ha; obtain ⟨hb, hb'⟩ := i64_bounds hb; obtain ⟨hc, hc'⟩ := i64_bounds hc
  by_cases h : m < 0 ∨ 3 < m
  · exact exact_mode a b c m w ha ha' hb hb' hc hc' h
  · by_cases h2 : a < -9223372036854775807 ∨ b < -9223372036854775807 ∨ c < -9223372036854775807
    · exact exact_limit a b c m w ha ha' hb hb' hc hc' (by omega) (by omega) h2
    · by_cases h3 : c = 0
      · subst h3
        exact exact_zero a b m w ha ha' hb hb' (by omega) (by omega) (by omega) (by omega)
      · obtain ⟨k, rfl⟩ : ∃ k : Nat, m = k := ⟨m.toNat, by omega⟩
        exact exact_real a b c k w ha ha' hb hb' hc hc' (by omega) (by omega) (by omega) (by omega) h3
end Go.Proofs.Ytnnhlhdijfhepaa
