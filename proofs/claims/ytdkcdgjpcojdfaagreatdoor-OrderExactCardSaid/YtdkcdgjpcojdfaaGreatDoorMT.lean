/-
  What money.Text answers: the text of an amount, or that it is none.
  What rate.Text answers: the text of a rate, or that it is none.
-/
import Derived.Test.YtdkcdgjpcojdfaaGreatDoorRR
import Derived.Test.YtdkcdgjpcojdfaaGreatDoorPM
import Derived.Test.YtdkcdgjpcojdfaaGreatDoorShelf

namespace Go.Proofs.YtdkcdgjpcojdfaaGreatDoor
open Go.RowKit

def Tab (w : World) : Prop := Lib.TabIs Tryz.prog w "internal/strconv.uint64pow10" .u64 Lib.pow10Tab
theorem Tab.on {w w' : World} (h : Tab w) (hb : Below w.heap.size w w') : Tab w' := (Lib.tabBelow_of_tabIs h).on hb |>.here

set_option maxHeartbeats 400000 in
theorem two_any (n : Int) (w : World) (h0 : 0 ≤ n) (h1 : n < 100) :
    Calls Tryz.prog 132 #[.int .i64 n] w fun e w' => e = .returned (.string ⟨(PMoney.two n.toNat).toArray⟩) ∧ w = w' := by
  obtain ⟨i, rfl⟩ := Int.eq_ofNat_of_zero_le h0
  have hl := dec_len i (by omega)
  by_cases hs : i < 10
  · have H := Lib.hid (two_small i hs)
    go_enter Tryz.func132, Tryz.ntmps132
    go_wp2_with (go_at_call 126; refine (Tryz.strconv_Itoa_small i (by omega) _).mono ?_; rintro e w' ⟨rfl, rfl⟩)
    go_ret
    exact ⟨ret_str ((ByteArray.mk_append_mk [48] _).trans (by rw [List.singleton_append, H.out]; rfl)), rfl⟩
  · have H := Lib.hid (two_big i (by omega) (by omega))
    go_enter Tryz.func132, Tryz.ntmps132
    go_wp2_with (go_at_call 126; refine (Tryz.strconv_Itoa_small i (by omega) _).mono ?_; rintro e w' ⟨rfl, rfl⟩)
    go_ret
    exact ⟨ret_str (by rw [H.out]; rfl), rfl⟩

set_option maxHeartbeats 800000 in
theorem text_ok_neg (m : Int) (w : World) (h0 : 0 < m) (h1 : m ≤ 9223372036854775807) (ht : Tab w) :
    Calls Tryz.prog 127 #[.int .i64 (-m)] w fun e w' => e = .returned (.tuple #[.string ⟨(45 :: PMoney.text m).toArray⟩, .int .i64 0]) ∧ Below w.heap.size w w' := by
  have H := Lib.hid (text_pos m (by omega))
  have hl := Lib.itoa_length_le (m / 100) (by omega) (by omega)
  have hl2 := PMoney.two_len (m % 100).toNat
  go_enter Tryz.func127, Tryz.ntmps127
  go_wp2_with fail
  refine (right_yes _ _ (by omega)).mono ?_
  rintro e w' ⟨rfl, rfl⟩
  go_wp2_with fail
  refine (Tryz.strconv_Itoa _ (by omega) (by omega) _ ht).mono ?_
  rintro e w' ⟨rfl, k, os, rfl⟩
  go_wp2_with fail
  refine (two_any _ _ (by omega) (by omega)).mono ?_
  rintro e w' ⟨rfl, rfl⟩
  go_wp2
  go_ret2
  refine ⟨ret_str0 ?_, Lib.below_grow _ _ (Nat.le_refl _) _ _⟩
  rw [← H.out]
  exact (congrArg (· ++ _) ((congrArg (· ++ _) (ByteArray.mk_append_mk [45] _)).trans (ByteArray.mk_append_mk _ [46]))).trans (ByteArray.mk_append_mk _ _)
set_option maxHeartbeats 800000 in
theorem text_ok_pos (m : Int) (w : World) (h0 : 0 ≤ m) (h1 : m ≤ 9223372036854775807) (ht : Tab w) :
    Calls Tryz.prog 127 #[.int .i64 m] w fun e w' => e = .returned (.tuple #[.string ⟨(PMoney.text m).toArray⟩, .int .i64 0]) ∧ Below w.heap.size w w' := by
  have H := Lib.hid (text_pos m (by omega))
  have hl := Lib.itoa_length_le (m / 100) (by omega) (by omega)
  have hl2 := PMoney.two_len (m % 100).toNat
  go_enter Tryz.func127, Tryz.ntmps127
  go_wp2_with fail
  refine (right_yes _ _ (by omega)).mono ?_
  rintro e w' ⟨rfl, rfl⟩
  go_wp2_with fail
  refine (Tryz.strconv_Itoa _ (by omega) (by omega) _ ht).mono ?_
  rintro e w' ⟨rfl, k, os, rfl⟩
  go_wp2_with fail
  refine (two_any _ _ (by omega) (by omega)).mono ?_
  rintro e w' ⟨rfl, rfl⟩
  go_wp2
  go_ret2
  refine ⟨ret_str0 ?_, Lib.below_grow _ _ (Nat.le_refl _) _ _⟩
  rw [← H.out]
  exact (congrArg (· ++ _) ((congrArg (· ++ _) (ByteArray.mk_append_mk [] _)).trans (ByteArray.mk_append_mk _ [46]))).trans (ByteArray.mk_append_mk _ _)
theorem text_yes (n : Int) (w : World) (h0 : -9223372036854775807 ≤ n) (h1 : n ≤ 9223372036854775807) (ht : Tab w) :
    Calls Tryz.prog 127 #[.int .i64 n] w fun e w' => e = .returned (.tuple #[.string ⟨(PMoney.text n).toArray⟩, .int .i64 0]) ∧ Below w.heap.size w w' := by
  by_cases hn : n < 0
  · have := text_ok_neg (-n) w (by omega) (by omega) ht
    rw [text_neg n hn, Int.neg_neg] at this
    exact this
  · exact text_ok_pos n w (by omega) h1 ht
set_option maxHeartbeats 400000 in
theorem text_no (n : Int) (w : World) (h0 : n < -9223372036854775807) :
    Calls Tryz.prog 127 #[.int .i64 n] w fun e w' => e = .returned (.tuple #[.string ⟨[].toArray⟩, .int .i64 3]) ∧ w = w' := by
  go_enter Tryz.func127, Tryz.ntmps127
  go_wp2_with (go_at_call 131; refine (right_no _ _ (by omega)).mono ?_; rintro e w' ⟨rfl, rfl⟩)
  go_ret2
  exact ⟨rfl, rfl⟩
end Go.Proofs.YtdkcdgjpcojdfaaGreatDoor

namespace Go.Proofs.YtdkcdgjpcojdfaaGreatDoor
open Go.RowKit

set_option maxHeartbeats 800000 in
theorem rtext_yes (n : Int) (w : World) (h0 : 0 ≤ n) (h1 : n ≤ 10000) (ht : Tab w) (u : ByteArray) (hu : u = ⟨(PRate.text n).toArray⟩) :
    Calls Tryz.prog 128 #[.int .i64 n] w fun e w' => e = .returned (.tuple #[.string u, .int .i64 0]) ∧ Below w.heap.size w w' := by
  obtain ⟨t, htt⟩ : ∃ t : ByteArray, t = ⟨(PMoney.text n).toArray⟩ := ⟨_, rfl⟩
  have T := Lib.hid (text_yes n w (by omega) (by omega) ht)
  rw [← htt] at T
  have HU : Hid (t ++ ⟨#[37]⟩ = u) := Lib.hid (by rw [hu, htt]; exact ByteArray.mk_append_mk _ [37])
  have hts : t.size ≤ 100 := by
    have h2 := PRate.text_len n h0 h1
    unfold PRate.text at h2
    rw [List.length_append] at h2
    rw [htt]; show (PMoney.text n).toArray.size ≤ 100
    simp at h2 ⊢; omega
  clear htt hu
  have R := Lib.hid (rate_yes n w ⟨h0, h1⟩)
  go_enter Tryz.func128, Tryz.ntmps128
  go_wp2_with fail
  refine R.out.mono ?_
  rintro _ _ ⟨rfl, rfl⟩
  go_wp2_with fail
  refine T.out.mono ?_
  rintro _ w1 ⟨rfl, b1⟩
  go_wp2_with fail
  go_ret2
  exact ⟨by rw [← HU.out]; rfl, b1⟩
set_option maxHeartbeats 800000 in
theorem rtext_no (n : Int) (w : World) (h : ¬ (0 ≤ n ∧ n ≤ 10000)) :
    Calls Tryz.prog 128 #[.int .i64 n] w fun e w' => e = .returned (.tuple #[.string ⟨#[]⟩, .int .i64 1]) ∧ w = w' := by
  have R := Lib.hid (rate_no n w h); clear h
  go_enter Tryz.func128, Tryz.ntmps128
  go_wp2_with fail
  refine R.out.mono ?_
  rintro _ _ ⟨rfl, rfl⟩
  go_wp2_with fail
  go_ret2
  exact ⟨rfl, rfl⟩
end Go.Proofs.YtdkcdgjpcojdfaaGreatDoor
