/-
  What the reference of layer 3 answers: the text of a rate; the rate of a text, or that there is none.
-/
import Derived.Test.YtnolbjaeilgjhaaDoorRef01Text
import Derived.Test.YtnolbjaeilgjhaaDoorRateWords
import Derived.Test.YtnolbjaeilgjhaaDoorRateParse
namespace Go.Proofs.YtnolbjaeilgjhaaDoor
open Go.RowKit


set_option maxHeartbeats 800000 in
theorem reftext3 (n : Int) (w : World) (h0 : 0 ≤ n) (h1 : n ≤ 10000) (u : ByteArray) (hu : u = ⟨(PRate.text n).toArray⟩) :
    Calls Tryd.prog 64 #[.int .i64 n] w fun e w' => e = .returned (.string u) ∧ Below w.heap.size w w' := by
  obtain ⟨t, htt⟩ : ∃ t : ByteArray, t = ⟨(PMoney.text n).toArray⟩ := ⟨_, rfl⟩
  have T := Lib.hid (reftext_any n w (by omega) (by omega))
  rw [← htt] at T
  have HU : Hid (t ++ ⟨#[37]⟩ = u) := Lib.hid (by rw [hu, htt]; exact ByteArray.mk_append_mk _ [37])
  have hts : t.size ≤ 100 := by
    have h2 := PRate.text_len n h0 h1
    unfold PRate.text at h2
    rw [List.length_append] at h2
    rw [htt]; show (PMoney.text n).toArray.size ≤ 100
    simp at h2 ⊢; omega
  clear htt hu
  go_enter Tryd.func64, Tryd.ntmps64
  go_wp2_with fail
  refine T.out.mono ?_
  rintro _ w1 ⟨rfl, b1⟩
  go_wp2_with fail
  go_ret
  exact ⟨by rw [← HU.out]; rfl, b1⟩

set_option maxHeartbeats 1600000 in
theorem refparse3 (s : ByteArray) (w : World) (hs : s.size ≤ 9223372036854775807) :
    Calls Tryd.prog 51 #[.string s] w fun e w' => e = .returned (rparseV s.data.toList) ∧ Below w.heap.size w w' := by
  go_enter Tryd.func51, Tryd.ntmps51
  go_wp2_with fail
  go_loopw [4] (fun i wr => ∃ k : Nat, k ≤ 10001 ∧ i = .int .i64 k ∧ (∀ j : Nat, j < k → PRate.text j ≠ s.data.toList) ∧ Below w.heap.size w wr) (fun i _ => (10001 - intOf i).toNat)
  case atStart => exact ⟨0, by omega, rfl, fun j hj => by omega, Below.refl _ _⟩
  case round =>
    obtain ⟨k, hk, rfl, hno, hb⟩ := hrel
    obtain ⟨x, hx⟩ : ∃ x : Int, (k : Int) = x := ⟨_, rfl⟩
    have x0 : 0 ≤ x := by omega
    rw [hx]
    have HX := Lib.hid hx; have HNO := Lib.hid hno; have HB := Lib.hid hb
    clear hx hno hb
    by_cases hend : 10000 < x
    · have HN : Hid (rparseV s.data.toList = .tuple #[.int .i64 0, .bool false]) := Lib.hid (by
        apply rparseV_none
        rcases h : PRate.parse s.data.toList with _ | n
        · rfl
        · obtain ⟨a1, a2, a3⟩ := (PRate.parse_iff _ _).1 h
          have := HNO.out n.toNat (by have := HX.out; omega)
          rw [Int.toNat_of_nonneg a1] at this
          exact absurd a3 this)
      go_wp2_with fail
      go_ret2
      exact ⟨by rw [HN.out]; rfl, HB.out⟩
    · have x1 : x ≤ 10000 := by omega
      clear hend
      have hl := PRate.text_len x x0 x1
      by_cases h9 : s.size < 9
      · obtain ⟨u, hu⟩ : ∃ u : ByteArray, u = ⟨(PRate.text x).toArray⟩ := ⟨_, rfl⟩
        have T := Lib.hid (fun w => reftext3 x w x0 x1 u hu)
        by_cases he : PRate.text x = s.data.toList
        · have hb1 := bytes_eq hu he
          have HN := Lib.hid (rparseV_some ((PRate.parse_iff _ _).2 ⟨x0, x1, he⟩))
          clear hu he hl
          go_wp2_with fail
          refine (T.out _).mono ?_
          rintro _ w1 ⟨rfl, b1⟩
          go_wp2_with fail
          go_ret2
          exact ⟨by rw [HN.out]; rfl, below_step HB.out b1⟩
        · have hb1 := bytes_ne hu he
          have HE := Lib.hid he
          clear hu he hl
          go_wp2_with fail
          refine (T.out _).mono ?_
          rintro _ w1 ⟨rfl, b1⟩
          go_wp2_with fail
          refine ⟨⟨k + 1, by have := HX.out; omega, by rw [← HX.out]; rfl, fun j hj => ?_, below_step HB.out b1⟩, by simp only [intOf]; have := HX.out; omega⟩
          by_cases hjk : j = k
          · subst hjk; rw [HX.out]; exact HE.out
          · exact HNO.out j (by omega)
      · have HE : Hid (PRate.text x ≠ s.data.toList) := Lib.hid (fun h => by
          have := congrArg List.length h
          rw [len_of] at this
          omega)
        clear hl
        have h9' : (9 : Int) ≤ (s.size : Int) := by omega
        go_wp2_with fail
        refine ⟨⟨k + 1, by have := HX.out; omega, by rw [← HX.out]; rfl, fun j hj => ?_, HB.out⟩, by simp only [intOf]; have := HX.out; omega⟩
        by_cases hjk : j = k
        · subst hjk; rw [HX.out]; exact HE.out
        · exact HNO.out j (by omega)
end Go.Proofs.YtnolbjaeilgjhaaDoor
