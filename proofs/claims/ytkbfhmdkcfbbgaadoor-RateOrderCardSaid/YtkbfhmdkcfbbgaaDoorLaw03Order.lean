/-
  RateOrder: the texts of rates have five to seven bytes, with % at the end, and unlike rates have unlike texts.
-/
import Derived.Test.YtkbfhmdkcfbbgaaDoorLaw03Texts
namespace Go.Proofs.YtkbfhmdkcfbbgaaDoor
open Go.RowKit

theorem rtext_last {n : Int} {t : ByteArray} (ht : t = ⟨(PRate.text n).toArray⟩) (h0 : 0 ≤ n) (h1 : n ≤ 10000) :
    ∃ (h5 : 5 ≤ t.size), t.size ≤ 7 ∧ t[t.size - 1] = 37 := by
  obtain ⟨l1, l2⟩ := PRate.text_len n h0 h1
  have hsz : t.size = (PRate.text n).length := by rw [ht]; show (PRate.text n).toArray.size = _; simp
  have hl : t.data.toList = PRate.text n := by rw [ht]
  refine ⟨by omega, by omega, ?_⟩
  have h2 := at_of (t := t) (i := t.size - 1) (by omega)
  rw [hl] at h2
  have h3 : (PRate.text n)[t.size - 1]? = some 37 := by
    rw [hsz]; unfold PRate.text; simp
  rw [h3] at h2
  injection h2 with h2
  exact h2.symm

set_option maxHeartbeats 1600000 in
set_option maxRecDepth 100000 in
theorem rorder_any (a b : Int) (w : World) (ht : Tab w) (ha : 0 ≤ a) (ha' : a ≤ 65535) (hb : 0 ≤ b) (hb' : b ≤ 65535) :
    Calls Tryd.prog 4 #[.int .u16 a, .int .u16 b] w fun e w' => e = .returned (.bool true) ∧ Below w.heap.size w w' := by
  obtain ⟨u, hu⟩ : ∃ u : ByteArray, u = ⟨(PRate.text (a % 10001)).toArray⟩ := ⟨_, rfl⟩
  obtain ⟨v, hv⟩ : ∃ v : ByteArray, v = ⟨(PRate.text (b % 10001)).toArray⟩ := ⟨_, rfl⟩
  have T1 := Lib.hid (fun w ht => rtext_yes (a % 10001) w (by omega) (by omega) ht u hu)
  have T2 := Lib.hid (fun w ht => rtext_yes (b % 10001) w (by omega) (by omega) ht v hv)
  obtain ⟨h5, h7, hd⟩ := rtext_last hu (by omega) (by omega)
  have hd' : (((u[u.size - 1].toNat : Nat) : Int) == 37) = true := by rw [hd]; rfl
  by_cases h : a % 10001 = b % 10001
  · have e1 : (u.toList == v.toList) = true := by rw [hu, hv, h]; simp
    have e2 : (a % 10001 == b % 10001) = true := by rw [beq_iff_eq]; exact h
    clear hd hu hv h
    go_enter Tryd.func4, Tryd.ntmps4
    go_wp2_with fail
    refine (T1.out _ ht).mono ?_
    rintro _ w1 ⟨rfl, b1⟩
    go_wp2_with fail
    refine (T2.out _ (ht.on b1)).mono ?_
    rintro _ w2 ⟨rfl, b2⟩
    go_wp2_with fail
    refine (awake_any _).mono ?_
    rintro _ w3 ⟨rfl, b3⟩
    go_wp2
    go_ret
    exact ⟨rfl, below_step (below_step b1 b2) b3⟩
  · have e1 : (u.toList == v.toList) = false := by
      rw [beq_eq_false_iff_ne]; intro e
      rw [ByteArray.toList_eq, ByteArray.toList_eq, hu, hv] at e
      exact h (PRate.text_inj (by omega) (by omega) (by simpa using e) (by omega) (by omega))
    have e2 : (a % 10001 == b % 10001) = false := by rw [beq_eq_false_iff_ne]; exact h
    clear hd hu hv h
    go_enter Tryd.func4, Tryd.ntmps4
    go_wp2_with fail
    refine (T1.out _ ht).mono ?_
    rintro _ w1 ⟨rfl, b1⟩
    go_wp2_with fail
    refine (T2.out _ (ht.on b1)).mono ?_
    rintro _ w2 ⟨rfl, b2⟩
    go_wp2_with fail
    refine (awake_any _).mono ?_
    rintro _ w3 ⟨rfl, b3⟩
    go_wp2
    go_ret
    exact ⟨rfl, below_step (below_step b1 b2) b3⟩

theorem rorder_walk (a b : Int) (w : World) (ht : Tab w) (ha : (Lit.int .u16 a).wf = true) (hb : (Lit.int .u16 b).wf = true) :
    Calls Tryd.prog 4 #[.int .u16 a, .int .u16 b] w fun e w' => e = .returned (.bool true) ∧ Below w.heap.size w w' :=
  rorder_any a b w ht (u16_bounds ha).1 (u16_bounds ha).2 (u16_bounds hb).1 (u16_bounds hb).2
end Go.Proofs.YtkbfhmdkcfbbgaaDoor
