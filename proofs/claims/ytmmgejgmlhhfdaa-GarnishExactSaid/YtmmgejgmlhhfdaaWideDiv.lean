/-
  What MulDiv answers, over any numbers, in one formula.
-/
import Derived.Test.YtmmgejgmlhhfdaaWide
namespace Go.Proofs.Ytmmgejgmlhhfdaa
open Go.RowKit

/-- MulDiv's number and error. -/
def md (a b c mode : Int) : Int × Int :=
  if mode < 0 ∨ 3 < mode then (0, 1)
  else if a < -9223372036854775807 ∨ b < -9223372036854775807 ∨ c < -9223372036854775807 then (0, 3)
  else if c = 0 then (0, 4)
  else if 9223372036854775807 < PDigs.rounded mode.toNat (a.natAbs * b.natAbs) c.natAbs then (0, 3)
  else (if a.sign * b.sign * c.sign < 0 then -((PDigs.rounded mode.toNat (a.natAbs * b.natAbs) c.natAbs : Nat) : Int) else ((PDigs.rounded mode.toNat (a.natAbs * b.natAbs) c.natAbs : Nat) : Int), 0)
def mdV (p : Int × Int) : Value := .tuple #[.int .i64 p.1, .int .i64 p.2]

theorem right_yes' (a : Int) (w : World) (h : -9223372036854775807 ≤ a) : Calls Try.prog 62 #[.int .i64 a] w fun e w' => e = .returned (.bool true) ∧ w = w' :=
  (right_any a w).mono fun _ _ ⟨k, l⟩ => ⟨by rw [k, decide_eq_true h], l⟩
theorem right_no' (a : Int) (w : World) (h : a < -9223372036854775807) : Calls Try.prog 62 #[.int .i64 a] w fun e w' => e = .returned (.bool false) ∧ w = w' :=
  (right_any a w).mono fun _ _ ⟨k, l⟩ => ⟨by rw [k, decide_eq_false (by omega)], l⟩
theorem sign_range (a : Int) : -1 ≤ a.sign ∧ a.sign ≤ 1 := by
  rcases Int.lt_trichotomy a 0 with h | h | h
  · rw [Int.sign_eq_neg_one_of_neg h]; omega
  · rw [h]; decide
  · rw [Int.sign_eq_one_of_pos h]; omega
theorem sign_mul_range (a b : Int) : -1 ≤ a.sign * b.sign ∧ a.sign * b.sign ≤ 1 := by rw [← Int.sign_mul]; exact sign_range _
theorem sign_mul3_range (a b c : Int) : -1 ≤ a.sign * b.sign * c.sign ∧ a.sign * b.sign * c.sign ≤ 1 := by rw [← Int.sign_mul, ← Int.sign_mul]; exact sign_range _

theorem muldiv_mode (a b c m : Int) (w : World) (h : m < 0 ∨ 3 < m) :
    Calls Try.prog 38 #[.int .i64 a, .int .i64 b, .int .i64 c, .int .i64 m] w fun e w' => e = .returned (.tuple #[.int .i64 0, .int .i64 1]) ∧ w = w' := by
  rcases h with h | h
  · go_enter Try.func38, Try.ntmps38
    go_wp2_with fail
    go_ret2
    exact ⟨rfl, rfl⟩
  · go_enter Try.func38, Try.ntmps38
    go_wp2_with fail
    go_ret2
    exact ⟨rfl, rfl⟩

theorem muldiv_limit (a b c m : Int) (w : World) (h0 : 0 ≤ m) (h1 : m ≤ 3) (h : a < -9223372036854775807 ∨ b < -9223372036854775807 ∨ c < -9223372036854775807) :
    Calls Try.prog 38 #[.int .i64 a, .int .i64 b, .int .i64 c, .int .i64 m] w fun e w' => e = .returned (.tuple #[.int .i64 0, .int .i64 3]) ∧ w = w' := by
  by_cases ha : a < -9223372036854775807
  · go_enter Try.func38, Try.ntmps38
    go_wp2_with fail
    refine (right_no' a _ ha).mono ?_
    rintro _ _ ⟨rfl, rfl⟩
    go_wp2_with fail
    go_ret2
    exact ⟨rfl, rfl⟩
  · by_cases hb : b < -9223372036854775807
    · go_enter Try.func38, Try.ntmps38
      go_wp2_with fail
      refine (right_yes' a _ (by omega)).mono ?_
      rintro _ _ ⟨rfl, rfl⟩
      go_wp2_with fail
      refine (right_no' b _ hb).mono ?_
      rintro _ _ ⟨rfl, rfl⟩
      go_wp2_with fail
      go_ret2
      exact ⟨rfl, rfl⟩
    · have hc : c < -9223372036854775807 := by omega
      go_enter Try.func38, Try.ntmps38
      go_wp2_with fail
      refine (right_yes' a _ (by omega)).mono ?_
      rintro _ _ ⟨rfl, rfl⟩
      go_wp2_with fail
      refine (right_yes' b _ (by omega)).mono ?_
      rintro _ _ ⟨rfl, rfl⟩
      go_wp2_with fail
      refine (right_no' c _ hc).mono ?_
      rintro _ _ ⟨rfl, rfl⟩
      go_wp2_with fail
      go_ret2
      exact ⟨rfl, rfl⟩

theorem muldiv_zero (a b m : Int) (w : World) (h0 : 0 ≤ m) (h1 : m ≤ 3) (ha : -9223372036854775807 ≤ a) (hb : -9223372036854775807 ≤ b) :
    Calls Try.prog 38 #[.int .i64 a, .int .i64 b, .int .i64 0, .int .i64 m] w fun e w' => e = .returned (.tuple #[.int .i64 0, .int .i64 4]) ∧ w = w' := by
  go_enter Try.func38, Try.ntmps38
  go_wp2_with fail
  refine (right_yes' a _ (by omega)).mono ?_
  rintro _ _ ⟨rfl, rfl⟩
  go_wp2_with fail
  refine (right_yes' b _ (by omega)).mono ?_
  rintro _ _ ⟨rfl, rfl⟩
  go_wp2_with fail
  refine (right_yes' 0 _ (by omega)).mono ?_
  rintro _ _ ⟨rfl, rfl⟩
  go_wp2_with fail
  go_ret2
  exact ⟨rfl, rfl⟩

set_option maxHeartbeats 1600000 in
theorem muldiv_real (a b c : Int) (m : Nat) (w : World) (h1 : m ≤ 3) (ha : -9223372036854775807 ≤ a) (ha' : a ≤ 9223372036854775807) (hb : -9223372036854775807 ≤ b) (hb' : b ≤ 9223372036854775807) (hc : -9223372036854775807 ≤ c) (hc' : c ≤ 9223372036854775807) (hc0 : c ≠ 0)
    (n e : Int) (hne : (if 9223372036854775807 < PDigs.rounded m (a.natAbs * b.natAbs) c.natAbs then ((0, 3) : Int × Int)
      else (if a.sign * b.sign * c.sign < 0 then -((PDigs.rounded m (a.natAbs * b.natAbs) c.natAbs : Nat) : Int) else ((PDigs.rounded m (a.natAbs * b.natAbs) c.natAbs : Nat) : Int), 0)) = (n, e)) :
    Calls Try.prog 38 #[.int .i64 a, .int .i64 b, .int .i64 c, .int .i64 m] w fun r w' => r = .returned (.tuple #[.int .i64 n, .int .i64 e]) ∧ Below w.heap.size w w' := by
  have S := Lib.hid (sizes_any a.natAbs b.natAbs c.natAbs m w (by omega) (by omega) (by omega) (by omega) h1)
  have hcb : (c == 0) = false := by rw [beq_eq_false_iff_ne]; exact hc0
  generalize PDigs.rounded m (a.natAbs * b.natAbs) c.natAbs = r at *
  have SA := Lib.hid (fun w => size_u a w (by omega) ha'); have SB := Lib.hid (fun w => size_u b w (by omega) hb'); have SC := Lib.hid (fun w => size_u c w (by omega) hc')
  have GA := Lib.hid (fun w => sign_any a w); have GB := Lib.hid (fun w => sign_any b w); have GC := Lib.hid (fun w => sign_any c w)
  obtain ⟨t1, t2⟩ := sign_mul_range a b
  obtain ⟨t3, t4⟩ := sign_mul3_range a b c
  have T1 : Hid (wrap64 (a.sign * b.sign) = a.sign * b.sign) := Lib.hid (by unfold wrap64; omega)
  have T2 : Hid (wrap64 (a.sign * b.sign * c.sign) = a.sign * b.sign * c.sign) := Lib.hid (by unfold wrap64; omega)
  obtain ⟨p, hp⟩ : ∃ p, a.sign * b.sign = p := ⟨_, rfl⟩
  rw [hp] at t1 t2 t3 t4 T1 T2 hne
  obtain ⟨q, hq⟩ : ∃ q, p * c.sign = q := ⟨_, rfl⟩
  rw [hq] at t3 t4 T2 hne
  have HP := Lib.hid hp; have HQ := Lib.hid hq
  clear hp hq
  by_cases hbig : 9223372036854775807 < r
  · rw [if_pos hbig] at hne
    obtain ⟨rfl, rfl⟩ := Prod.mk.inj hne
    clear hne
    rw [sv_no hbig] at S
    clear hbig
    go_enter Try.func38, Try.ntmps38
    go_wp2_with fail
    refine (right_yes' a _ ha).mono ?_
    rintro _ _ ⟨rfl, rfl⟩
    go_wp2_with fail
    refine (right_yes' b _ hb).mono ?_
    rintro _ _ ⟨rfl, rfl⟩
    go_wp2_with fail
    refine (right_yes' c _ hc).mono ?_
    rintro _ _ ⟨rfl, rfl⟩
    go_wp2_with fail
    refine (SA.out _).mono ?_
    rintro _ _ ⟨rfl, rfl⟩
    go_wp2_with fail
    refine (SB.out _).mono ?_
    rintro _ _ ⟨rfl, rfl⟩
    go_wp2_with fail
    refine (SC.out _).mono ?_
    rintro _ _ ⟨rfl, rfl⟩
    go_wp2_with fail
    refine S.out.mono ?_
    rintro _ w1 ⟨rfl, b1⟩
    go_wp2_with fail
    go_ret2
    exact ⟨rfl, b1⟩
  · rw [if_neg hbig] at hne
    obtain ⟨hn, rfl⟩ := Prod.mk.inj hne
    clear hne
    rw [sv_yes (by omega)] at S
    obtain ⟨z, hz⟩ : ∃ z : Int, (r : Int) = z := ⟨_, rfl⟩
    rw [hz] at S hn
    have z0 : 0 ≤ z := by omega
    have z1 : z ≤ 9223372036854775807 := by omega
    clear hz hbig
    have HN := Lib.hid hn; clear hn
    go_enter Try.func38, Try.ntmps38
    go_wp2_with fail
    refine (right_yes' a _ ha).mono ?_
    rintro _ _ ⟨rfl, rfl⟩
    go_wp2_with fail
    refine (right_yes' b _ hb).mono ?_
    rintro _ _ ⟨rfl, rfl⟩
    go_wp2_with fail
    refine (right_yes' c _ hc).mono ?_
    rintro _ _ ⟨rfl, rfl⟩
    go_wp2_with fail
    refine (SA.out _).mono ?_
    rintro _ _ ⟨rfl, rfl⟩
    go_wp2_with fail
    refine (SB.out _).mono ?_
    rintro _ _ ⟨rfl, rfl⟩
    go_wp2_with fail
    refine (SC.out _).mono ?_
    rintro _ _ ⟨rfl, rfl⟩
    go_wp2_with fail
    refine S.out.mono ?_
    rintro _ w1 ⟨rfl, b1⟩
    go_wp2_with fail
    refine (GA.out _).mono ?_
    rintro _ _ ⟨rfl, rfl⟩
    go_wp2_with fail
    refine (GB.out _).mono ?_
    rintro _ _ ⟨rfl, rfl⟩
    go_wp2_with fail
    refine (GC.out _).mono ?_
    rintro _ _ ⟨rfl, rfl⟩
    rw [HP.out]
    go_wp2_with fail
    · rename_i h
      rw [T1.out, HQ.out, T2.out] at h
      go_ret2
      exact ⟨by rw [← HN.out, if_pos h]; rfl, b1⟩
    · rename_i h
      rw [T1.out, HQ.out, T2.out] at h
      go_ret2
      exact ⟨by rw [← HN.out, if_neg (by omega)]; rfl, b1⟩

theorem muldiv_any (a b c m : Int) (w : World) (ha : -9223372036854775808 ≤ a) (ha' : a ≤ 9223372036854775807) (hb : -9223372036854775808 ≤ b) (hb' : b ≤ 9223372036854775807) (hc : -9223372036854775808 ≤ c) (hc' : c ≤ 9223372036854775807) :
    Calls Try.prog 38 #[.int .i64 a, .int .i64 b, .int .i64 c, .int .i64 m] w fun r w' => r = .returned (mdV (md a b c m)) ∧ Below w.heap.size w w' := by
  unfold md
  split
  · rename_i h
    exact (muldiv_mode a b c m w h).mono fun _ _ ⟨h, k⟩ => ⟨h, k ▸ Below.refl _ _⟩
  · split
    · rename_i h0 h
      exact (muldiv_limit a b c m w (by omega) (by omega) h).mono fun _ _ ⟨h, k⟩ => ⟨h, k ▸ Below.refl _ _⟩
    · split
      · rename_i h0 h1 h
        subst h
        exact (muldiv_zero a b m w (by omega) (by omega) (by omega) (by omega)).mono fun _ _ ⟨h, k⟩ => ⟨h, k ▸ Below.refl _ _⟩
      · rename_i h0 h1 h
        obtain ⟨k, rfl⟩ : ∃ k : Nat, m = k := ⟨m.toNat, by omega⟩
        rw [Int.toNat_natCast]
        exact muldiv_real a b c k w (by omega) (by omega) (by omega) (by omega) (by omega) (by omega) (by omega) h _ _ rfl

theorem muldiv_at {a b c m n e : Int} (h : md a b c m = (n, e)) (ha : -9223372036854775808 ≤ a) (ha' : a ≤ 9223372036854775807) (hb : -9223372036854775808 ≤ b) (hb' : b ≤ 9223372036854775807) (hc : -9223372036854775808 ≤ c) (hc' : c ≤ 9223372036854775807) (w : World) :
    Calls Try.prog 38 #[.int .i64 a, .int .i64 b, .int .i64 c, .int .i64 m] w fun r w' => r = .returned (.tuple #[.int .i64 n, .int .i64 e]) ∧ Below w.heap.size w w' := by
  have := muldiv_any a b c m w ha ha' hb hb' hc hc'
  rw [h] at this
  exact this
end Go.Proofs.Ytmmgejgmlhhfdaa
