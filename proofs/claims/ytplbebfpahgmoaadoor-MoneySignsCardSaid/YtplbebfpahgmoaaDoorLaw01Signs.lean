/-
  MoneySigns: an amount taken off 0 twice is as it was; its text has a minus just if it is below 0, and two digits behind the dot.
-/
import Derived.Test.YtplbebfpahgmoaaDoorLaw01Awake
namespace Go.Proofs.YtplbebfpahgmoaaDoor
open Go.RowKit

theorem text_at {n : Int} {t : ByteArray} (ht : t = ⟨(PMoney.text n).toArray⟩) (h0 : -9223372036854775808 ≤ n) (h1 : n ≤ 9223372036854775807) :
    ∃ (h4 : 4 ≤ t.size), t.size ≤ 30 ∧ t[t.size - 3] = 46 ∧ (n < 0 → t[0] = 45) ∧ (0 ≤ n → t[0] ≠ 45) := by
  obtain ⟨l1, l2⟩ := text_len n h0 h1
  have hsz : t.size = (PMoney.text n).length := by rw [ht]; show (PMoney.text n).toArray.size = _; simp
  have hl : t.data.toList = PMoney.text n := by rw [ht]
  refine ⟨by omega, by omega, ?_, ?_, ?_⟩
  · have h2 := at_of (t := t) (i := t.size - 3) (by omega)
    rw [hl] at h2
    have h3 : (PMoney.text n)[t.size - 3]? = some 46 := by
      rw [hsz]
      unfold PMoney.text PMoney.textNat
      split
      · simp
      · simp
    rw [h3] at h2
    injection h2 with h2
    exact h2.symm
  · intro hn
    have h2 := at_of (t := t) (i := 0) (by omega)
    rw [hl, ← List.head?_eq_getElem?, (PMoney.text_minus n).2 hn] at h2
    injection h2 with h2
    exact h2.symm
  · intro hn e
    have h2 := at_of (t := t) (i := 0) (by omega)
    rw [hl, ← List.head?_eq_getElem?, e] at h2
    have := (PMoney.text_minus n).1 h2
    omega
theorem text_as (n : Int) (w : World) (h0 : -9223372036854775807 ≤ n) (h1 : n ≤ 9223372036854775807) (ht : Tab w) (t : ByteArray) (e : t = ⟨(PMoney.text n).toArray⟩) :
    Calls Tryd.prog 18 #[.int .i64 n] w fun e w' => e = .returned (.tuple #[.string t, .int .i64 0]) ∧ Below w.heap.size w w' := by
  rw [e]; exact text_yes n w h0 h1 ht

set_option maxHeartbeats 1600000 in
theorem signs_yes (a : Int) (w : World) (ht : Tab w) (ha : -9223372036854775807 ≤ a) (ha' : a ≤ 9223372036854775807) :
    Calls Tryd.prog 7 #[.int .i64 a] w fun e w' => e = .returned (.bool true) ∧ Below w.heap.size w w' := by
  obtain ⟨t, e⟩ : ∃ t : ByteArray, t = ⟨(PMoney.text a).toArray⟩ := ⟨_, rfl⟩
  obtain ⟨h4, h30, hd, hm, hp⟩ := text_at e (by omega) ha'
  have HE := Lib.hid e; clear e
  have hd' : (((t[t.size - 3].toNat : Nat) : Int) == 46) = true := by rw [hd]; rfl
  clear hd
  by_cases hn : a < 0
  · have hz : (((t[0].toNat : Nat) : Int) == 45) = true := by rw [hm hn]; rfl
    clear hm hp
    go_enter Tryd.func7, Tryd.ntmps7
    go_wp2_with fail
    refine (neg_ok _ _ ha ha').mono ?_
    rintro e w' ⟨rfl, rfl⟩
    go_wp2_with fail
    refine (neg_ok _ _ (by omega) (by omega)).mono ?_
    rintro e w' ⟨rfl, rfl⟩
    go_wp2_with fail
    refine (text_as _ _ ha ha' ht t HE.out).mono ?_
    rintro e w1 ⟨rfl, hb⟩
    go_wp2_with fail
    refine (awake_yes _ (ht.on hb)).mono ?_
    rintro e w2 ⟨rfl, hb2⟩
    go_wp2
    go_ret
    exact ⟨rfl, below_step hb hb2⟩
  · have hz : (((t[0].toNat : Nat) : Int) == 45) = false := by
      rw [beq_eq_false_iff_ne]; intro e; exact hp (by omega) (UInt8.toNat_inj.1 (show t[0].toNat = 45 by omega))
    clear hm hp
    go_enter Tryd.func7, Tryd.ntmps7
    go_wp2_with fail
    refine (neg_ok _ _ ha ha').mono ?_
    rintro e w' ⟨rfl, rfl⟩
    go_wp2_with fail
    refine (neg_ok _ _ (by omega) (by omega)).mono ?_
    rintro e w' ⟨rfl, rfl⟩
    go_wp2_with fail
    refine (text_as _ _ ha ha' ht t HE.out).mono ?_
    rintro e w1 ⟨rfl, hb⟩
    go_wp2_with fail
    refine (awake_yes _ (ht.on hb)).mono ?_
    rintro e w2 ⟨rfl, hb2⟩
    go_wp2
    go_ret
    exact ⟨ret_val (show Value.bool (!decide (a < 0)) = .bool true by simp; omega), below_step hb hb2⟩

set_option maxHeartbeats 1600000 in
theorem signs_no (a : Int) (w : World) (ht : Tab w) (ha : a < -9223372036854775807) :
    Calls Tryd.prog 7 #[.int .i64 a] w fun e w' => e = .returned (.bool true) ∧ Below w.heap.size w w' := by
  go_enter Tryd.func7, Tryd.ntmps7
  go_wp2_with fail
  refine (neg_no _ _ ha).mono ?_
  rintro e w' ⟨rfl, rfl⟩
  go_wp2_with fail
  refine (neg_ok _ _ (by omega) (by omega)).mono ?_
  rintro e w' ⟨rfl, rfl⟩
  go_wp2_with fail
  refine (text_no _ _ ha).mono ?_
  rintro e w' ⟨rfl, rfl⟩
  go_wp2_with fail
  refine (right_no _ _ ha).mono ?_
  rintro e w' ⟨rfl, rfl⟩
  go_wp2_with fail
  refine (awake_yes _ ht).mono ?_
  rintro e w2 ⟨rfl, hb2⟩
  go_wp2
  go_ret
  exact ⟨rfl, hb2⟩

theorem signs_walk (a : Int) (w : World) (ht : Tab w) (ha : (Lit.int .i64 a).wf = true) :
    Calls Tryd.prog 7 #[.int .i64 a] w fun e w' => e = .returned (.bool true) ∧ Below w.heap.size w w' := by
  by_cases h : -9223372036854775807 ≤ a
  · exact signs_yes a w ht h (i64_bounds ha).2
  · exact signs_no a w ht (by omega)
end Go.Proofs.YtplbebfpahgmoaaDoor
