/-
  What money.Text answers: the text of an amount, or that it is none.
-/
import Derived.Test.YtkbfhmdkcfbbgaaDoorMoneyRight
import Derived.Test.YtkbfhmdkcfbbgaaDoorMoneyMath
import Derived.Test.YtkbfhmdkcfbbgaaDoorShelf
import Derived.Lib.AppendIntMem
namespace Go.Proofs.YtkbfhmdkcfbbgaaDoor
open Go.RowKit

/-- The library's table of powers of ten lies where it lay. -/
def Tab (w : World) : Prop := Lib.TabIs Tryd.prog w "internal/strconv.uint64pow10" .u64 Lib.pow10Tab
theorem Tab.on {w w' : World} (h : Tab w) (hb : Below w.heap.size w w') : Tab w' := (Lib.tabBelow_of_tabIs h).on hb |>.here

theorem two_small (i : Nat) (h : i < 10) : (48 :: Lib.decDigits i) = PMoney.two i := by
  unfold PMoney.two
  rw [PMoney.dec_small i h, show i / 10 = 0 by omega, show i % 10 = i by omega]; rfl
theorem two_big (i : Nat) (h : 10 ≤ i) (h' : i < 100) : Lib.decDigits i = PMoney.two i := by
  unfold PMoney.two
  rw [Lib.decDigits, dif_neg (by omega), PMoney.dec_small _ (by omega)]; rfl

theorem ret_str {a b : ByteArray} (h : a = b) : Ending.returned (.string a) = .returned (.string b) := by rw [h]
theorem ret_str0 {a b : ByteArray} {n : Int} (h : a = b) : Ending.returned (.tuple #[.string a, .int .i64 n]) = .returned (.tuple #[.string b, .int .i64 n]) := by rw [h]
theorem dec_len (i : Nat) (h : i ≤ 9223372036854775807) : (Lib.decDigits i).length ≤ 21 := by
  have := Lib.itoa_length_le i (by omega) (by omega)
  unfold Lib.itoa at this
  rw [if_neg (by omega)] at this
  simpa using this

set_option maxHeartbeats 400000 in
theorem two_any (n : Int) (w : World) (h0 : 0 ≤ n) (h1 : n < 100) :
    Calls Tryd.prog 19 #[.int .i64 n] w fun e w' => e = .returned (.string ⟨(PMoney.two n.toNat).toArray⟩) ∧ w = w' := by
  obtain ⟨i, rfl⟩ := Int.eq_ofNat_of_zero_le h0
  have hl := dec_len i (by omega)
  by_cases hs : i < 10
  · have H := Lib.hid (two_small i hs)
    go_enter Tryd.func19, Tryd.ntmps19
    go_wp2_with (go_at_call 18; refine (Tryd.strconv_Itoa_small i (by omega) _).mono ?_; rintro e w' ⟨rfl, rfl⟩)
    go_ret
    exact ⟨ret_str ((ByteArray.mk_append_mk [48] _).trans (by rw [List.singleton_append, H.out]; rfl)), rfl⟩
  · have H := Lib.hid (two_big i (by omega) (by omega))
    go_enter Tryd.func19, Tryd.ntmps19
    go_wp2_with (go_at_call 18; refine (Tryd.strconv_Itoa_small i (by omega) _).mono ?_; rintro e w' ⟨rfl, rfl⟩)
    go_ret
    exact ⟨ret_str (by rw [H.out]; rfl), rfl⟩

theorem itoa_nat (n : Int) (h : 0 ≤ n) : Lib.itoa n = Lib.decDigits n.toNat := by unfold Lib.itoa; rw [if_neg (by omega)]

theorem text_pos (n : Int) (h : 0 ≤ n) : Lib.itoa (n / 100) ++ [46] ++ PMoney.two (n % 100).toNat = PMoney.text n := by
  obtain ⟨i, rfl⟩ := Int.eq_ofNat_of_zero_le h
  unfold PMoney.text PMoney.textNat PMoney.two
  rw [if_neg (by omega), itoa_nat _ (by omega), show ((i : Int) / 100).toNat = i / 100 by omega, show ((i : Int) % 100).toNat = i % 100 by omega, show (i : Int).natAbs = i by omega, show i % 100 % 10 = i % 10 by omega]
  simp
theorem text_neg (n : Int) (h : n < 0) : 45 :: PMoney.text (-n) = PMoney.text n := by
  unfold PMoney.text
  rw [if_pos h, if_neg (by omega), show (-n).natAbs = n.natAbs by omega]


set_option maxHeartbeats 800000 in
theorem text_ok_neg (m : Int) (w : World) (h0 : 0 < m) (h1 : m ≤ 9223372036854775807) (ht : Tab w) :
    Calls Tryd.prog 12 #[.int .i64 (-m)] w fun e w' => e = .returned (.tuple #[.string ⟨(45 :: PMoney.text m).toArray⟩, .int .i64 0]) ∧ Below w.heap.size w w' := by
  have H := Lib.hid (text_pos m (by omega))
  have hl := Lib.itoa_length_le (m / 100) (by omega) (by omega)
  have hl2 := PMoney.two_len (m % 100).toNat
  go_enter Tryd.func12, Tryd.ntmps12
  go_wp2_with fail
  refine (right_yes _ _ (by omega)).mono ?_
  rintro e w' ⟨rfl, rfl⟩
  go_wp2_with fail
  refine (Tryd.strconv_Itoa _ (by omega) (by omega) _ ht).mono ?_
  rintro e w' ⟨rfl, k, os, rfl⟩
  go_wp2_with fail
  refine (two_any _ _ (by omega) (by omega)).mono ?_
  rintro e w' ⟨rfl, rfl⟩
  go_wp2
  go_ret2
  refine ⟨ret_str0 ?_, Lib.below_grow _ _ (Nat.le_refl _) _ _⟩
  rw [← H.out]
  exact (congrArg (· ++ _) ((congrArg (· ++ _) (ByteArray.mk_append_mk [45] _)).trans (ByteArray.mk_append_mk _ [46]))).trans (ByteArray.mk_append_mk _ _)
set_option maxHeartbeats 800000 in
theorem text_ok_pos (m : Int) (w : World) (h0 : 0 ≤ m) (h1 : m ≤ 9223372036854775807) (ht : Tab w) :
    Calls Tryd.prog 12 #[.int .i64 m] w fun e w' => e = .returned (.tuple #[.string ⟨(PMoney.text m).toArray⟩, .int .i64 0]) ∧ Below w.heap.size w w' := by
  have H := Lib.hid (text_pos m (by omega))
  have hl := Lib.itoa_length_le (m / 100) (by omega) (by omega)
  have hl2 := PMoney.two_len (m % 100).toNat
  go_enter Tryd.func12, Tryd.ntmps12
  go_wp2_with fail
  refine (right_yes _ _ (by omega)).mono ?_
  rintro e w' ⟨rfl, rfl⟩
  go_wp2_with fail
  refine (Tryd.strconv_Itoa _ (by omega) (by omega) _ ht).mono ?_
  rintro e w' ⟨rfl, k, os, rfl⟩
  go_wp2_with fail
  refine (two_any _ _ (by omega) (by omega)).mono ?_
  rintro e w' ⟨rfl, rfl⟩
  go_wp2
  go_ret2
  refine ⟨ret_str0 ?_, Lib.below_grow _ _ (Nat.le_refl _) _ _⟩
  rw [← H.out]
  exact (congrArg (· ++ _) ((congrArg (· ++ _) (ByteArray.mk_append_mk [] _)).trans (ByteArray.mk_append_mk _ [46]))).trans (ByteArray.mk_append_mk _ _)
/-- money.Text of an amount: its text; only new memory is laid. -/
theorem text_yes (n : Int) (w : World) (h0 : -9223372036854775807 ≤ n) (h1 : n ≤ 9223372036854775807) (ht : Tab w) :
    Calls Tryd.prog 12 #[.int .i64 n] w fun e w' => e = .returned (.tuple #[.string ⟨(PMoney.text n).toArray⟩, .int .i64 0]) ∧ Below w.heap.size w w' := by
  by_cases hn : n < 0
  · have := text_ok_neg (-n) w (by omega) (by omega) ht
    rw [text_neg n hn, Int.neg_neg] at this
    exact this
  · exact text_ok_pos n w (by omega) h1 ht
set_option maxHeartbeats 400000 in
theorem text_no (n : Int) (w : World) (h0 : n < -9223372036854775807) :
    Calls Tryd.prog 12 #[.int .i64 n] w fun e w' => e = .returned (.tuple #[.string ⟨[].toArray⟩, .int .i64 3]) ∧ w = w' := by
  go_enter Tryd.func12, Tryd.ntmps12
  go_wp2_with (go_at_call 17; refine (right_no _ _ (by omega)).mono ?_; rintro e w' ⟨rfl, rfl⟩)
  go_ret2
  exact ⟨rfl, rfl⟩
theorem text_len (n : Int) (h0 : -9223372036854775808 ≤ n) (h1 : n ≤ 9223372036854775807) : 4 ≤ (PMoney.text n).length ∧ (PMoney.text n).length ≤ 30 := by
  have h2 := dec_len (n.natAbs / 100) (by omega)
  have h3 : (Lib.decDigits (n.natAbs / 100)).length ≠ 0 := fun e => PMoney.dec_ne_nil _ (List.eq_nil_of_length_eq_zero e)
  unfold PMoney.text PMoney.textNat
  split <;> simp <;> omega
end Go.Proofs.YtkbfhmdkcfbbgaaDoor
