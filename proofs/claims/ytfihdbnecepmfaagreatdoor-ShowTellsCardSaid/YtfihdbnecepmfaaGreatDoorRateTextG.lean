/-
  What rate.Text answers: the text of a rate, or that it is none.
-/
import Derived.Test.YtfihdbnecepmfaaGreatDoorMoneyTextG
import Derived.Test.YtfihdbnecepmfaaGreatDoorPM
import Derived.Test.YtfihdbnecepmfaaGreatDoorRR

namespace Go.Proofs.YtfihdbnecepmfaaGreatDoor
open Go.RowKit

set_option maxHeartbeats 800000 in
theorem rtext_yes (n : Int) (w : World) (h0 : 0 ≤ n) (h1 : n ≤ 10000) (ht : Tab w) (u : ByteArray) (hu : u = ⟨(PRate.text n).toArray⟩) :
    Calls Tryz.prog 122 #[.int .i64 n] w fun e w' => e = .returned (.tuple #[.string u, .int .i64 0]) ∧ Below w.heap.size w w' := by
  obtain ⟨t, htt⟩ : ∃ t : ByteArray, t = ⟨(PMoney.text n).toArray⟩ := ⟨_, rfl⟩
  have T := Lib.hid (text_yes n w (by omega) (by omega) ht)
  rw [← htt] at T
  have HU : Hid (t ++ ⟨#[37]⟩ = u) := Lib.hid (by rw [hu, htt]; exact ByteArray.mk_append_mk _ [37])
  have hts : t.size ≤ 100 := by
    have h2 := PRate.text_len n h0 h1
    unfold PRate.text at h2
    rw [List.length_append] at h2
    rw [htt]; show (PMoney.text n).toArray.size ≤ 100
    simp at h2 ⊢; omega
  clear htt hu
  have R := Lib.hid (rate_yes n w ⟨h0, h1⟩)
  go_enter Tryz.func122, Tryz.ntmps122
  go_wp2_with fail
  refine R.out.mono ?_
  rintro _ _ ⟨rfl, rfl⟩
  go_wp2_with fail
  refine T.out.mono ?_
  rintro _ w1 ⟨rfl, b1⟩
  go_wp2_with fail
  go_ret2
  exact ⟨by rw [← HU.out]; rfl, b1⟩
set_option maxHeartbeats 800000 in
theorem rtext_no (n : Int) (w : World) (h : ¬ (0 ≤ n ∧ n ≤ 10000)) :
    Calls Tryz.prog 122 #[.int .i64 n] w fun e w' => e = .returned (.tuple #[.string ⟨#[]⟩, .int .i64 1]) ∧ w = w' := by
  have R := Lib.hid (rate_no n w h); clear h
  go_enter Tryz.func122, Tryz.ntmps122
  go_wp2_with fail
  refine R.out.mono ?_
  rintro _ _ ⟨rfl, rfl⟩
  go_wp2_with fail
  go_ret2
  exact ⟨rfl, rfl⟩
end Go.Proofs.YtfihdbnecepmfaaGreatDoor
