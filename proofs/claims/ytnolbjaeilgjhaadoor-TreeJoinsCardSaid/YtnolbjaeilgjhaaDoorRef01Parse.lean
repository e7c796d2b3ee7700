/-
  What the reference's Parse answers: the amount of a text, or false.
-/
import Derived.Test.YtnolbjaeilgjhaaDoorRef01Text
import Derived.Test.YtnolbjaeilgjhaaDoorRef01Math
import Derived.Test.YtnolbjaeilgjhaaDoorMoneyParse
import Derived.Deep.DeepCutAuto
namespace Go.Proofs.YtnolbjaeilgjhaaDoor
open Go.RowKit

/-- What it answers: the amount and true, or whatever and false. -/
def RefAns (l : List UInt8) (w : World) (e : Ending) (w' : World) : Prop :=
  ∃ (x : Int) (b : Bool), e = .returned (.tuple #[.int .i64 x, .bool b]) ∧ b = (PMoney.parse l).isSome ∧ (∀ n, PMoney.parse l = some n → x = n) ∧ Below w.heap.size w w'
theorem refAns_none {l : List UInt8} {w w' : World} {x : Int} (h : PMoney.parse l = none) (hb : Below w.heap.size w w') : RefAns l w (.returned (.tuple #[.int .i64 x, .bool false])) w' :=
  ⟨x, false, rfl, by rw [h]; rfl, (fun n hn => by rw [h] at hn; cases hn), hb⟩
theorem refAns_some {l : List UInt8} {w w' : World} {x : Int} (h : PMoney.parse l = some x) (hb : Below w.heap.size w w') : RefAns l w (.returned (.tuple #[.int .i64 x, .bool true])) w' :=
  ⟨x, true, rfl, by rw [h]; rfl, (fun n hn => by rw [h] at hn; injection hn), hb⟩

theorem getq_of {t : ByteArray} {j : Nat} (h : j < t.size) : t.data.toList[j]? = some t[j] := at_of h
theorem rstep_dot {L j m : Nat} {c : UInt8} (hj : j + 3 = L) (hc : c = 46) : PMoney.rstep L j m c = some m := by unfold PMoney.rstep; rw [if_pos hj, if_pos hc]
theorem rstep_dotno {L j m : Nat} {c : UInt8} (hj : j + 3 = L) (hc : c ≠ 46) : PMoney.rstep L j m c = none := by unfold PMoney.rstep; rw [if_pos hj, if_neg hc]
theorem rstep_dig {L j m : Nat} {c : UInt8} (hj : j + 3 ≠ L) : PMoney.rstep L j m c = PMoney.stepN m c := by unfold PMoney.rstep; rw [if_neg hj]

/-- The text behind its sign. -/
def Rest (s t : ByteArray) (b : Bool) : Prop :=
  t.data.toList = PMoney.bare s.data.toList ∧ ((b = true ∧ t = s.extract 1 s.size ∧ 0 < s.size ∧ s.data.toList.head? = some 45) ∨ (b = false ∧ t = s ∧ ¬ s.data.toList.head? = some 45))
theorem rest_of (s : ByteArray) : ∃ t b, Rest s t b := by
  by_cases h : s.data.toList.head? = some 45
  · refine ⟨s.extract 1 s.size, true, ?_, .inl ⟨rfl, rfl, ?_, h⟩⟩
    · unfold PMoney.bare
      rw [if_pos h, extract_list, List.take_of_length_le (Nat.le_of_eq (len_of s)), List.drop_one]
    · rcases Nat.eq_zero_or_pos s.size with h0 | h0
      · rw [← len_of] at h0; rw [List.eq_nil_of_length_eq_zero h0] at h; cases h
      · exact h0
  · exact ⟨s, false, by unfold PMoney.bare; rw [if_neg h], .inr ⟨rfl, rfl, h⟩⟩
theorem head_bool {s : ByteArray} (h : 0 < s.size) (hh : s.data.toList.head? = some 45) : (((s[0].toNat : Nat) : Int) == 45) = true := by
  rw [List.head?_eq_getElem?, at_of h] at hh
  injection hh with hh
  rw [hh]; rfl
theorem head_bool' {s : ByteArray} (h : 0 < s.size) (hh : ¬ s.data.toList.head? = some 45) : (((s[0].toNat : Nat) : Int) == 45) = false := by
  rw [List.head?_eq_getElem?, at_of h] at hh
  rw [beq_eq_false_iff_ne]; intro e; exact hh (by rw [UInt8.toNat_inj.1 (show s[0].toNat = (45 : UInt8).toNat from by have : (45 : UInt8).toNat = 45 := rfl; omega)])

theorem reftext_as (n : Int) (w : World) (h0 : -9223372036854775807 ≤ n) (h1 : n ≤ 9223372036854775807) (u : ByteArray) (e : u = ⟨(PMoney.text n).toArray⟩) :
    Calls Tryd.prog 63 #[.int .i64 n] w fun e w' => e = .returned (.string u) ∧ Below w.heap.size w w' := by
  rw [e]; exact reftext_any n w h0 h1

set_option maxHeartbeats 3200000 in
set_option maxRecDepth 100000 in
theorem refparse_any (s : ByteArray) (w : World) (hs : s.size ≤ 9223372036854775807) :
    Calls Tryd.prog 50 #[.string s] w (RefAns s.data.toList w) := by
  obtain ⟨t, b, hr1, hr2⟩ := rest_of s
  have R1 := Lib.hid hr1; clear hr1
  have R2 := Lib.hid hr2; clear hr2
  have hts : t.size ≤ 9223372036854775807 := by
    rcases R2.out with ⟨_, rfl, _⟩ | ⟨_, rfl, _⟩
    · simp; omega
    · exact hs
  go_enter Tryd.func50, Tryd.ntmps50
  go_upto_region 2 with fail
  go_cut [18] (fun x wx => x = .bool b ∧ w = wx)
  case first =>
    rcases R2.out with ⟨rfl, _, h0, hh⟩ | ⟨rfl, rfl, hh⟩
    · have hz := head_bool h0 hh
      clear hh
      go_wp2_with fail
      go_meet
      exact ⟨rfl, rfl⟩
    · by_cases h0 : 0 < t.size
      · have hz := head_bool' h0 hh
        clear hh
        go_wp2_with fail
        go_meet
        exact ⟨rfl, rfl⟩
      · have h1 : t.size ≤ 0 := by omega
        clear hh
        go_wp2_with fail
        go_meet
        exact ⟨rfl, rfl⟩
  case rest =>
    obtain ⟨rfl, rfl⟩ := hcut
    go_upto_if 18 with fail
    go_cut [4, 5] (fun r m wx => r = .string t ∧ m = .bool b ∧ w = wx)
    case first =>
      rcases R2.out with ⟨rfl, rfl, h0, _⟩ | ⟨rfl, rfl, _⟩
      · go_wp2_with fail
        go_meet
        exact ⟨rfl, rfl, rfl⟩
      · go_wp2_with fail
        go_meet
        exact ⟨rfl, rfl, rfl⟩
    case rest =>
      obtain ⟨rfl, rfl, rfl⟩ := hcut
      go_wp2_with fail
      go_loop [6, 7] (fun n i => ∃ (j m : Nat), j ≤ t.size ∧ i = .int .i64 j ∧ n = .int .i64 m ∧ m ≤ 9223372036854775807 ∧ PMoney.racc t.data.toList j = some m) (fun _ i => t.size - (intOf i).toNat)
      case atStart => exact ⟨0, 0, Nat.zero_le _, rfl, rfl, by omega, rfl⟩
      case round =>
        obtain ⟨j, m, hj, rfl, rfl, hm, hap⟩ := hrel
        have HA := Lib.hid hap; clear hap
        by_cases hlt : j < t.size
        · have hc : t[j].toNat < 256 := t[j].toNat_lt
          have HN : Hid (∀ k, PMoney.rstep t.size j m t[j] = some k → PMoney.racc t.data.toList (j + 1) = some k) := Lib.hid (fun k hk => by
            rw [PMoney.racc_next HA.out (at_of hlt), len_of]; exact hk)
          have HF : Hid (PMoney.rstep t.size j m t[j] = none → PMoney.parse s.data.toList = none) := Lib.hid (fun hk => by
            apply PMoney.parse_none_of
            rw [← R1.out]
            exact PMoney.racc_none' (j := j + 1) (by rw [PMoney.racc_next HA.out (at_of hlt), len_of]; exact hk) (by rw [len_of]; omega))
          by_cases h3 : j + 3 = t.size
          · have e3 : ((j : Int) == (t.size : Int) - 3) = true := by rw [beq_iff_eq]; omega
            by_cases h46 : t[j] = 46
            · have e46 := dot_bool h46
              have HY := Lib.hid (HN.out m (rstep_dot h3 h46))
              clear h46 h3
              go_wp2_with fail
              go_round
              case rel => exact ⟨j + 1, m, by omega, by go_num, rfl, hm, HY.out⟩
              case measure => simp [intOf]; omega
            · have e46 : (((t[j].toNat : Nat) : Int) != 46) = true := by
                rw [bne_iff_ne]; intro e; exact h46 (UInt8.toNat_inj.1 (show t[j].toNat = 46 by omega))
              have HY := Lib.hid (HF.out (rstep_dotno h3 h46))
              clear h46 h3
              go_wp2_with fail
              go_ret2
              exact refAns_none HY.out (Below.refl _ _)
          · have e3 : ((j : Int) == (t.size : Int) - 3) = false := by rw [beq_eq_false_iff_ne]; omega
            have h3' := h3
            clear h3
            by_cases hd : 48 ≤ t[j].toNat ∧ t[j].toNat ≤ 57
            · obtain ⟨hd1, hd2⟩ := hd
              by_cases hb : 10 * m + (t[j].toNat - 48) ≤ 9223372036854775807
              · have HY := Lib.hid (HN.out _ ((rstep_dig h3').trans (step_yes hd1 hd2 hb)))
                go_wp2_with fail
                go_round
                case rel => exact ⟨j + 1, 10 * m + (t[j].toNat - 48), by omega, by go_num, by congr 1; omega, hb, HY.out⟩
                case measure => simp [intOf]; omega
              · have HY := Lib.hid (HF.out ((rstep_dig h3').trans (step_no (by omega))))
                go_wp2_with fail
                go_ret2
                exact refAns_none HY.out (Below.refl _ _)
            · have HY := Lib.hid (HF.out ((rstep_dig h3').trans (step_no (by omega))))
              by_cases hd1 : t[j].toNat < 48
              all_goals
                go_wp2_with fail
                go_ret2
                exact refAns_none HY.out (Below.refl _ _)
        · obtain rfl : j = t.size := by omega
          have HW : Hid (PMoney.racc (PMoney.bare s.data.toList) (PMoney.bare s.data.toList).length = some m) := Lib.hid (by rw [← R1.out, len_of]; exact HA.out)
          have HL : Hid ((PMoney.bare s.data.toList).length = t.size) := Lib.hid (by rw [← R1.out, len_of])
          by_cases h4 : t.size < 4
          · have HY := Lib.hid (PMoney.parse_none_short (l := s.data.toList) (by rw [HL.out]; exact h4))
            cases b
            all_goals
              go_wp2_with fail
              go_ret2
              exact refAns_none HY.out (Below.refl _ _)
          · rcases R2.out with ⟨rfl, -, -, hh⟩ | ⟨rfl, -, hh⟩
            · obtain ⟨u, hu⟩ : ∃ u : ByteArray, u = ⟨(PMoney.text (-(m : Int))).toArray⟩ := ⟨_, rfl⟩
              have HU := Lib.hid hu
              by_cases htx : PMoney.text (-(m : Int)) = s.data.toList
              · have hq := bytes_eq hu htx
                have HY := Lib.hid (PMoney.parse_yes HW.out (by rw [HL.out]; omega) (n := -(m : Int)) (by omega) hm htx)
                clear hh htx hu
                go_wp2_with fail
                refine (reftext_as _ _ (by omega) (by omega) u HU.out).mono ?_
                rintro _ w1 ⟨rfl, hb1⟩
                go_wp2_with fail
                go_ret2
                exact refAns_some HY.out hb1
              · have hq := bytes_ne hu htx
                have HY := Lib.hid (PMoney.parse_no HW.out (by rw [HL.out]; omega) (n := -(m : Int)) (by rw [if_pos hh]) htx)
                clear hh htx hu
                go_wp2_with fail
                refine (reftext_as _ _ (by omega) (by omega) u HU.out).mono ?_
                rintro _ w1 ⟨rfl, hb1⟩
                go_wp2_with fail
                go_ret2
                exact refAns_none HY.out hb1
            · obtain ⟨u, hu⟩ : ∃ u : ByteArray, u = ⟨(PMoney.text ((m : Int))).toArray⟩ := ⟨_, rfl⟩
              have HU := Lib.hid hu
              by_cases htx : PMoney.text ((m : Int)) = s.data.toList
              · have hq := bytes_eq hu htx
                have HY := Lib.hid (PMoney.parse_yes HW.out (by rw [HL.out]; omega) (n := (m : Int)) (by omega) hm htx)
                clear hh htx hu
                go_wp2_with fail
                refine (reftext_as _ _ (by omega) (by omega) u HU.out).mono ?_
                rintro _ w1 ⟨rfl, hb1⟩
                go_wp2_with fail
                go_ret2
                exact refAns_some HY.out hb1
              · have hq := bytes_ne hu htx
                have HY := Lib.hid (PMoney.parse_no HW.out (by rw [HL.out]; omega) (n := (m : Int)) (by rw [if_neg hh]) htx)
                clear hh htx hu
                go_wp2_with fail
                refine (reftext_as _ _ (by omega) (by omega) u HU.out).mono ?_
                rintro _ w1 ⟨rfl, hb1⟩
                go_wp2_with fail
                go_ret2
                exact refAns_none HY.out hb1
end Go.Proofs.YtnolbjaeilgjhaaDoor
