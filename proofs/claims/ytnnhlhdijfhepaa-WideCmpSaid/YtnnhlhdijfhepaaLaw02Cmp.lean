/-
  WideCmp: which of two products is less is told as the document says.
-/
import Derived.Test.YtnnhlhdijfhepaaLaw02Awake
import Derived.Test.YtnnhlhdijfhepaaRef02Div
namespace Go.Proofs.Ytnnhlhdijfhepaa
open Go.RowKit

/-- The sign of a product, as the reference keeps it. -/
def sgB (a b : Int) : Bool := (decide (a < 0) != decide (b < 0)) && decide (0 < a.natAbs * b.natAbs)
theorem sgB_neg (a b : Int) : sgB a b = decide (a * b < 0) := by
  unfold sgB
  by_cases h0 : a.natAbs * b.natAbs = 0
  · rw [decide_eq_false (p := 0 < a.natAbs * b.natAbs) (by omega), Bool.and_false, decide_eq_false]
    rw [← Int.natAbs_mul, Int.natAbs_eq_zero] at h0
    omega
  · rw [decide_eq_true (p := 0 < a.natAbs * b.natAbs) (by omega), Bool.and_true]
    have ha : a ≠ 0 := fun h => h0 (by rw [h]; simp)
    have hb : b ≠ 0 := fun h => h0 (by rw [h]; simp)
    rcases Int.lt_or_gt_of_ne ha with ka | ka <;> rcases Int.lt_or_gt_of_ne hb with kb | kb
    · rw [decide_eq_true ka, decide_eq_true kb, decide_eq_false (p := a * b < 0) (by have := Int.mul_pos_of_neg_of_neg ka kb; omega)]; rfl
    · rw [decide_eq_true ka, decide_eq_false (p := b < 0) (by omega), decide_eq_true (p := a * b < 0) (Int.mul_neg_of_neg_of_pos ka kb)]; rfl
    · rw [decide_eq_false (p := a < 0) (by omega), decide_eq_true kb, decide_eq_true (p := a * b < 0) (Int.mul_neg_of_pos_of_neg ka kb)]; rfl
    · rw [decide_eq_false (p := a < 0) (by omega), decide_eq_false (p := b < 0) (by omega), decide_eq_false (p := a * b < 0) (by have := Int.mul_pos ka kb; omega)]; rfl
theorem cmpS_is (a b c d : Int) : cmpS (sgB a b) (sgB c d) (a.natAbs * b.natAbs) (c.natAbs * d.natAbs) = Lib.compareInt (a * b) (c * d) := by
  rw [sgB_neg, sgB_neg, ← Int.natAbs_mul, ← Int.natAbs_mul]
  generalize a * b = x
  generalize c * d = y
  unfold cmpS PDigs.cmp Lib.compareInt
  by_cases hx : x < 0 <;> by_cases hy : y < 0 <;> simp only [hx, hy, decide_true, decide_false] <;> (repeat' split) <;> first | rfl | (exfalso; omega) | (exfalso; simp_all) | omega

set_option maxHeartbeats 3200000 in
theorem cmp_any (a b c d : Int) (w : World) (ha : -9223372036854775808 ≤ a) (ha' : a ≤ 9223372036854775807) (hb : -9223372036854775808 ≤ b) (hb' : b ≤ 9223372036854775807) (hc : -9223372036854775808 ≤ c) (hc' : c ≤ 9223372036854775807) (hd : -9223372036854775808 ≤ d) (hd' : d ≤ 9223372036854775807) :
    Calls Try.prog 4 #[.int .i64 a, .int .i64 b, .int .i64 c, .int .i64 d] w fun e w' => e = .returned (.bool true) ∧ Below w.heap.size w w' := by
  have C1 := Lib.hid (fun w => wcmp_any a b c d w ha ha' hb hb' hc hc' hd hd')
  rw [← cmpS_is] at C1
  go_enter Try.func4, Try.ntmps4
  go_wp2_with fail
  refine (of_any a _ ha ha').mono ?_
  rintro _ w1 ⟨A1, n1, c1, rfl, hn1, hb1⟩
  have l1 : n1 ≤ 19 := by have := len19 (n := a.natAbs) (by omega); rw [hn1.len] at this; exact this
  have HN1 := Lib.hid hn1; clear hn1
  go_wp2_with fail
  refine (of_any b _ hb hb').mono ?_
  rintro _ w2 ⟨A2, n2, c2, rfl, hn2, hb2⟩
  have l2 : n2 ≤ 19 := by have := len19 (n := b.natAbs) (by omega); rw [hn2.len] at this; exact this
  have HN2 := Lib.hid hn2; clear hn2
  go_wp2_with fail
  refine (mul_any _ _ A1 A2 n1 c1 n2 c2 _ _ _ (HN1.out.on hb2).sl HN2.out.sl (by omega) (by omega)).mono ?_
  rintro _ w3 ⟨A3, n3, c3, rfl, hn3, hb3⟩
  have HN3 := Lib.hid hn3; clear hn3
  go_wp2_with fail
  refine (of_any c _ hc hc').mono ?_
  rintro _ w4 ⟨A4, n4, c4, rfl, hn4, hb4⟩
  have l4 : n4 ≤ 19 := by have := len19 (n := c.natAbs) (by omega); rw [hn4.len] at this; exact this
  have HN4 := Lib.hid hn4; clear hn4
  go_wp2_with fail
  refine (of_any d _ hd hd').mono ?_
  rintro _ w5 ⟨A5, n5, c5, rfl, hn5, hb5⟩
  have l5 : n5 ≤ 19 := by have := len19 (n := d.natAbs) (by omega); rw [hn5.len] at this; exact this
  have HN5 := Lib.hid hn5; clear hn5
  go_wp2_with fail
  refine (mul_any _ _ A4 A5 n4 c4 n5 c5 _ _ _ (HN4.out.on hb5).sl HN5.out.sl (by omega) (by omega)).mono ?_
  rintro _ w6 ⟨A6, n6, c6, rfl, hn6, hb6⟩
  have HX := Lib.hid (HN3.out.on (below_step (below_step hb4 hb5) hb6)).sl
  have HY := Lib.hid hn6.sl
  have HB := Lib.hid (below_step (below_step (below_step (below_step (below_step hb1 hb2) hb3) hb4) hb5) hb6)
  clear hn6 HN1 HN2 HN3 HN4 HN5 hb1 hb2 hb3 hb4 hb5 hb6 l1 l2 l4 l5
  change Hid (∀ w, Calls _ _ _ w _) at C1
  obtain ⟨sx, hsx⟩ : ∃ s, sgB a b = s := ⟨_, rfl⟩
  obtain ⟨sy, hsy⟩ : ∃ s, sgB c d = s := ⟨_, rfl⟩
  rw [hsx, hsy] at C1
  unfold sgB at hsx hsy
  rw [hsx, hsy]
  clear hsx hsy
  generalize a.natAbs * b.natAbs = X at *
  generalize c.natAbs * d.natAbs = Y at *
  obtain ⟨k, hk⟩ : ∃ k, cmpS sx sy X Y = k := ⟨_, rfl⟩
  rw [hk] at C1
  have HK := Lib.hid hk; clear hk
  go_upto_region 2 with fail
  have hsz := boxed2_size w6 sx sy (.slice A3 n3 c3) (.slice A6 n6 c6)
  have hbx := boxed2_below w6 sx sy (.slice A3 n3 c3) (.slice A6 n6 c6)
  obtain ⟨k1, k2, k3, k4⟩ := boxed2_cells w6 sx sy (.slice A3 n3 c3) (.slice A6 n6 c6)
  change Code.wp _ _ _ _ (boxed2 w6 sx sy (.slice A3 n3 c3) (.slice A6 n6 c6))
  have HXB := Lib.hid (HX.out.on hbx); have HYB := Lib.hid (HY.out.on hbx)
  have HBB := Lib.hid (below_step HB.out hbx)
  clear HX HY HB
  generalize boxed2 w6 sx sy (.slice A3 n3 c3) (.slice A6 n6 c6) = wb at *
  have C2 : Hid (∀ w', Below wb.heap.size wb w' → Calls Try.prog 18 #[.agg #[.bool sx, .slice A3 n3 c3], .agg #[.bool sy, .slice A6 n6 c6]] w' fun e w'' => e = .returned (.int .i64 k) ∧ Below w'.heap.size w' w'') := Lib.hid (fun w' hb' => by
    have := compare_any sx sy A3 A6 n3 c3 n6 c6 X Y w' (HXB.out.on hb') (HYB.out.on hb')
    rw [HK.out] at this
    exact this)
  have L1 : w6.heap.size < wb.heap.size := by omega
  have L2 : w6.heap.size + 1 < wb.heap.size := by omega
  clear HXB HYB HK hbx hsz
  generalize w6.heap.size = z at *
  have E := Lib.hid (And.intro k1 (And.intro k2 (And.intro k3 k4)))
  have ON : Hid (∀ w', Below wb.heap.size wb w' → w'.cell? ⟨z, 0, none⟩ = some (.bool sx) ∧ w'.cell? ⟨z, 1, none⟩ = some (.slice A3 n3 c3) ∧ w'.cell? ⟨z + 1, 0, none⟩ = some (.bool sy) ∧ w'.cell? ⟨z + 1, 1, none⟩ = some (.slice A6 n6 c6)) := Lib.hid (fun w' hb' =>
    ⟨(hb'.cell L1).trans k1, (hb'.cell L1).trans k2, (hb'.cell L2).trans k3, (hb'.cell L2).trans k4⟩)
  go_region_held3 (fun w' => w'.cell? ⟨z, 0, none⟩ = some (.bool sx) ∧ w'.cell? ⟨z, 1, none⟩ = some (.slice A3 n3 c3) ∧ w'.cell? ⟨z + 1, 0, none⟩ = some (.bool sy) ∧ w'.cell? ⟨z + 1, 1, none⟩ = some (.slice A6 n6 c6))
    (first
      | go_keep
      | exact ON.out _ hb7
      | exact ON.out _ (below_undrew hb7)
      | exact ON.out _ (below_step hb7 hb8)
      | exact ON.out _ (below_step (below_undrew hb7) hb8))
    (first
      | ((go_at_call 17; refine (C1.out _).mono ?_; rintro _ _ ⟨rfl, rfl⟩))
      | ((go_at_call 18; refine (C2.out _ (by first | exact Below.refl _ _ | exact (Below.refl _ _).drew)).mono ?_; rintro _ w7 ⟨rfl, hb7⟩))
      | ((go_at_call 14; refine (awake_any _).mono ?_; rintro _ w8 ⟨rfl, hb8⟩)))
  all_goals
    go_wp2_with fail
    go_ret
    exact ⟨rfl, below_step HBB.out (below_step (by first | exact hb7 | exact below_undrew hb7) hb8)⟩

theorem cmp_walk (a b c d : Int) (w : World) (ha : (Lit.int .i64 a).wf = true) (hb : (Lit.int .i64 b).wf = true) (hc : (Lit.int .i64 c).wf = true) (hd : (Lit.int .i64 d).wf = true) :
    Calls Try.prog 4 #[.int .i64 a, .int .i64 b, .int .i64 c, .int .i64 d] w fun e w' => e = .returned (.bool true) ∧ Below w.heap.size w w' :=
  cmp_any a b c d w (i64_bounds ha).1 (i64_bounds ha).2 (i64_bounds hb).1 (i64_bounds hb).2 (i64_bounds hc).1 (i64_bounds hc).2 (i64_bounds hd).1 (i64_bounds hd).2
end Go.Proofs.Ytnnhlhdijfhepaa
