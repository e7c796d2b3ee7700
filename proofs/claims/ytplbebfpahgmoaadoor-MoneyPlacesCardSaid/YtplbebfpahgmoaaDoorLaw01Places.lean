/-
  MoneyPlaces: an amount a hundred times as great has a text with two noughts behind the dot, and its digits ahead of it (amounts below 2^50, either way).
-/
import Derived.Test.YtplbebfpahgmoaaDoorLaw01Signs
namespace Go.Proofs.YtplbebfpahgmoaaDoor
open Go.RowKit

theorem text_hundred (n : Int) (hn : 0 ≤ n) : ∃ pre, PMoney.text (100 * n) = pre ++ [46, 48, 48] ∧ PMoney.text (100 * n + 99) = pre ++ [46, 57, 57] := by
  refine ⟨Lib.decDigits n.natAbs, ?_, ?_⟩
  · unfold PMoney.text PMoney.textNat
    rw [if_neg (by omega), show (100 * n).natAbs / 100 = n.natAbs by omega, show (100 * n).natAbs % 100 / 10 = 0 by omega, show (100 * n).natAbs % 10 = 0 by omega]; rfl
  · unfold PMoney.text PMoney.textNat
    rw [if_neg (by omega), show (100 * n + 99).natAbs / 100 = n.natAbs by omega, show (100 * n + 99).natAbs % 100 / 10 = 9 by omega, show (100 * n + 99).natAbs % 10 = 9 by omega]; rfl
theorem text_hundred' (n : Int) (hn : n < 0) : ∃ pre, PMoney.text (100 * n) = pre ++ [46, 48, 48] ∧ PMoney.text (100 * n - 99) = pre ++ [46, 57, 57] := by
  refine ⟨45 :: Lib.decDigits n.natAbs, ?_, ?_⟩
  · unfold PMoney.text PMoney.textNat
    rw [if_pos (by omega), show (100 * n).natAbs / 100 = n.natAbs by omega, show (100 * n).natAbs % 100 / 10 = 0 by omega, show (100 * n).natAbs % 10 = 0 by omega]; rfl
  · unfold PMoney.text PMoney.textNat
    rw [if_pos (by omega), show (100 * n - 99).natAbs / 100 = n.natAbs by omega, show (100 * n - 99).natAbs % 100 / 10 = 9 by omega, show (100 * n - 99).natAbs % 10 = 9 by omega]; rfl

/-- What money.Parse answers of an amount's text. -/
theorem parse_as (n : Int) (w : World) (t : ByteArray) (h : n.natAbs ≤ 9223372036854775807) (hs : t.size ≤ 9223372036854775807) (e : t.data.toList = PMoney.text n) :
    Calls Tryd.prog 19 #[.string t] w fun e w' => e = .returned (.tuple #[.int .i64 n, .bool true]) ∧ w = w' := by
  have := parse_any t w hs
  rw [e, parseV_some (PMoney.parse_text n h)] at this
  exact this

theorem bytes_list (t : ByteArray) : t.toList = t.data.toList := ByteArray.toList_eq t
theorem tail_of {t : ByteArray} {pre : List UInt8} (h : t.data.toList = pre ++ [46, 48, 48]) : (t.extract (t.size - 3) t.size).toList = [46, 48, 48] := by
  have hl : t.size = pre.length + 3 := by rw [← len_of t, h]; simp
  rw [bytes_list, extract_list, List.take_of_length_le (Nat.le_of_eq (len_of t)), h, hl, show pre.length + 3 - 3 = pre.length by omega, List.drop_left' rfl]
theorem head_of {t : ByteArray} {pre : List UInt8} (h : t.data.toList = pre ++ [46, 48, 48]) : (t.extract 0 (t.size - 3) ++ ⟨#[46, 57, 57]⟩ : ByteArray).data.toList = pre ++ [46, 57, 57] := by
  have hl : t.size = pre.length + 3 := by rw [← len_of t, h]; simp
  rw [ByteArray.data_append, Array.toList_append, extract_list, List.drop_zero, h, hl, show pre.length + 3 - 3 = pre.length by omega, List.take_left' rfl]
set_option maxHeartbeats 1600000 in
theorem places_pos (a : Int) (w : World) (ht : Tab w) (n : Int) (hr : a.tmod 1125899906842624 = n) (h0 : 0 ≤ n) (h1 : n < 1125899906842624) :
    Calls Tryd.prog 9 #[.int .i64 a] w fun e w' => e = .returned (.bool true) ∧ Below w.heap.size w w' := by
  obtain ⟨t, e⟩ : ∃ t : ByteArray, t = ⟨(PMoney.text (100 * n)).toArray⟩ := ⟨_, rfl⟩
  obtain ⟨u, eu⟩ : ∃ u : ByteArray, u = ⟨(PMoney.text n).toArray⟩ := ⟨_, rfl⟩
  obtain ⟨h4, h30, _⟩ := text_at e (by omega) (by omega)
  obtain ⟨hu4, hu30, _⟩ := text_at eu (by omega) (by omega)
  obtain ⟨pre, p1, p2⟩ := text_hundred n (by omega)
  have htl : (t.extract (t.size - 3) t.size).toList = [46, 48, 48] := tail_of (by rw [e]; exact p1)
  have HP : Hid ((t.extract 0 (t.size - 3) ++ ⟨#[46, 57, 57]⟩ : ByteArray).data.toList = PMoney.text (100 * n + 99)) := Lib.hid (by rw [p2]; exact head_of (by rw [e]; exact p1))
  clear p1 p2
  have HE := Lib.hid e; clear e
  have HU := Lib.hid eu; clear eu
  go_enter Tryd.func9, Tryd.ntmps9
  go_wp2_with fail
  refine (text_as _ _ (by omega) (by omega) ht t HE.out).mono ?_
  rintro e w1 ⟨rfl, hb1⟩
  go_wp2_with fail
  refine (text_as _ _ (by omega) (by omega) (ht.on hb1) u HU.out).mono ?_
  rintro e w2 ⟨rfl, hb2⟩
  go_wp2_with fail
  refine (parse_as (100 * n) _ t (by omega) (by omega) (by rw [HE.out])).mono ?_
  rintro e w' ⟨rfl, rfl⟩
  go_wp2_with fail
  refine (parse_as (100 * n + 99) _ _ (by omega) (by rw [← len_of, HP.out]; have := text_len (100 * n + 99) (by omega) (by omega); omega) HP.out).mono ?_
  rintro e w' ⟨rfl, rfl⟩
  go_wp2_with fail
  refine (awake_yes _ ((ht.on hb1).on hb2)).mono ?_
  rintro e w3 ⟨rfl, hb3⟩
  go_wp2
  go_ret
  exact ⟨rfl, below_step (below_step hb1 hb2) hb3⟩
set_option maxHeartbeats 1600000 in
theorem places_neg (a : Int) (w : World) (ht : Tab w) (n : Int) (hr : a.tmod 1125899906842624 = n) (h0 : n < 0) (h1 : -1125899906842624 < n) :
    Calls Tryd.prog 9 #[.int .i64 a] w fun e w' => e = .returned (.bool true) ∧ Below w.heap.size w w' := by
  obtain ⟨t, e⟩ : ∃ t : ByteArray, t = ⟨(PMoney.text (100 * n)).toArray⟩ := ⟨_, rfl⟩
  obtain ⟨u, eu⟩ : ∃ u : ByteArray, u = ⟨(PMoney.text n).toArray⟩ := ⟨_, rfl⟩
  obtain ⟨h4, h30, _⟩ := text_at e (by omega) (by omega)
  obtain ⟨hu4, hu30, _⟩ := text_at eu (by omega) (by omega)
  obtain ⟨pre, p1, p2⟩ := text_hundred' n (by omega)
  have htl : (t.extract (t.size - 3) t.size).toList = [46, 48, 48] := tail_of (by rw [e]; exact p1)
  have HP : Hid ((t.extract 0 (t.size - 3) ++ ⟨#[46, 57, 57]⟩ : ByteArray).data.toList = PMoney.text (100 * n - 99)) := Lib.hid (by rw [p2]; exact head_of (by rw [e]; exact p1))
  clear p1 p2
  have HE := Lib.hid e; clear e
  have HU := Lib.hid eu; clear eu
  go_enter Tryd.func9, Tryd.ntmps9
  go_wp2_with fail
  refine (text_as _ _ (by omega) (by omega) ht t HE.out).mono ?_
  rintro e w1 ⟨rfl, hb1⟩
  go_wp2_with fail
  refine (text_as _ _ (by omega) (by omega) (ht.on hb1) u HU.out).mono ?_
  rintro e w2 ⟨rfl, hb2⟩
  go_wp2_with fail
  refine (parse_as (100 * n) _ t (by omega) (by omega) (by rw [HE.out])).mono ?_
  rintro e w' ⟨rfl, rfl⟩
  go_wp2_with fail
  refine (parse_as (100 * n - 99) _ _ (by omega) (by rw [← len_of, HP.out]; have := text_len (100 * n - 99) (by omega) (by omega); omega) HP.out).mono ?_
  rintro e w' ⟨rfl, rfl⟩
  go_wp2_with fail
  refine (awake_yes _ ((ht.on hb1).on hb2)).mono ?_
  rintro e w3 ⟨rfl, hb3⟩
  go_wp2
  go_ret
  exact ⟨rfl, below_step (below_step hb1 hb2) hb3⟩

theorem places_walk (a : Int) (w : World) (ht : Tab w) (_ : (Lit.int .i64 a).wf = true) :
    Calls Tryd.prog 9 #[.int .i64 a] w fun e w' => e = .returned (.bool true) ∧ Below w.heap.size w w' := by
  obtain ⟨n, hn⟩ : ∃ n, a.tmod 1125899906842624 = n := ⟨_, rfl⟩
  have h1 : n < 1125899906842624 := by rw [← hn]; have := Int.tmod_lt_of_pos a (b := 1125899906842624) (by omega); omega
  have h2 : -1125899906842624 < n := by rw [← hn]; have := Int.lt_tmod_of_pos a (b := 1125899906842624) (by omega); omega
  by_cases h0 : 0 ≤ n
  · exact places_pos a w ht n hn h0 h1
  · exact places_neg a w ht n hn (by omega) h2
end Go.Proofs.YtplbebfpahgmoaaDoor
