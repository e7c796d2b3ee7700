/-
  What the reference of layer 7 answers: all words of a text, or the place of the first that is none.
-/
import Derived.Test.YtdkcdgjpcojdfaaGreatDoorTK
import Derived.Test.YtdkcdgjpcojdfaaGreatDoorR7
import Derived.Deep.DeepCutAuto
import Derived.Deep.CutBlock

namespace Go.Proofs.YtdkcdgjpcojdfaaGreatDoor
open Go.RowKit

set_option maxHeartbeats 6400000 in
set_option maxRecDepth 100000 in
theorem refall_any (s : ByteArray) (w : World) (hs : s.size ≤ 99999) :
    Calls Tryz.prog 21 #[.string s] w (RefAll (PLex.all PLex.kindOf 0 s.data.toList) w) := by
  have HL : Hid (∀ (c : UInt8) (w : World), Calls Tryz.prog 40 #[.int .u8 c.toNat, .string { data := #[97, 98, 99, 100, 101, 102, 103, 104, 105, 106, 107, 108, 109, 110, 111, 112, 113, 114, 115, 116, 117, 118, 119, 120, 121, 122] }] w fun e w' => e = .returned (.bool (PLex.isLet c)) ∧ w = w') := Lib.hid (fun c w => by
    have := refin_any c letL w (by decide)
    rw [let_in] at this; exact this)
  have HD : Hid (∀ (c : UInt8) (w : World), Calls Tryz.prog 40 #[.int .u8 c.toNat, .string { data := #[48, 49, 50, 51, 52, 53, 54, 55, 56, 57] }] w fun e w' => e = .returned (.bool (PLex.isDig c)) ∧ w = w') := Lib.hid (fun c w => by
    have := refin_any c digL w (by decide)
    rw [dig_in] at this; exact this)
  have HG : Hid (∀ (c : UInt8) (w : World), Calls Tryz.prog 40 #[.int .u8 c.toNat, .string { data := #[61, 60, 62, 43, 45, 42, 40, 41, 44, 59] }] w fun e w' => e = .returned (.bool (PLex.isSgn c)) ∧ w = w') := Lib.hid (fun c w => by
    have := refin_any c sgnL w (by decide)
    rw [sgn_in] at this; exact this)
  go_enter Tryz.func21, Tryz.ntmps21
  go_wp2_with fail
  go_loopw [4, 5] (fun o i wr => ∃ (j : Nat) (ts : List PLex.Tok), j ≤ s.size ∧ i = .int .i64 j ∧ ts.length ≤ j ∧ Hid (told s j ts) ∧ Hid (wr.ownsRow w.heap.size 74 3 o ts.length (cellsT ts)) ∧ Hid (Below w.heap.size w wr)) (fun _ i _ => s.size - (intOf i).toNat)
  case atStart => exact ⟨0, [], Nat.zero_le _, rfl, Nat.le_refl _, (show Hid _ from told_first s), (show Hid _ from World.ownsRow_nil _ _ _ _), (show Hid _ from Below.refl _ _)⟩
  case round =>
    obtain ⟨j, ts, hj, rfl, hts, HT, HO, HB⟩ := hrel
    by_cases hlt : j < s.size
    · go_upto_block 2 with fail
      go_cut [7, 8] (fun t k wx => ∃ (n kk : Nat), stepAt s j = (kk, n) ∧ 1 ≤ n ∧ j + n ≤ s.size ∧ t = .int .i64 ((j + n : Nat) : Int) ∧ k = .int .i64 (if kk = 6 then -1 else (kk : Int)) ∧ Below wr.heap.size wr wx)
      case first =>
        by_cases h32 : s[j] = 32
        · have hst := Lib.hid (stepAt_blank hlt (.inl h32))
          have b1 := byte_eq (n := 32) rfl h32
          clear h32
          go_wp2_with fail
          go_meet
          exact ⟨1, 6, hst.out, by omega, by omega, by first | rfl | (congr 1), rfl, Below.refl _ _⟩
        have b1 := byte_ne (n := 32) rfl h32
        by_cases h10 : s[j] = 10
        · have hst := Lib.hid (stepAt_blank hlt (.inr h10))
          have b2 := byte_eq (n := 10) rfl h10
          clear h10 h32
          go_wp2_with fail
          go_meet
          exact ⟨1, 6, hst.out, by omega, by omega, by first | rfl | (congr 1), rfl, Below.refl _ _⟩
        have b2 := byte_ne (n := 10) rfl h10
        have hn : ¬ (s[j] = 32 ∨ s[j] = 10) := fun k => k.elim h32 h10
        by_cases h35 : s[j] = 35
        · have hst := Lib.hid (stepAt_comment hlt h35)
          have b3 := byte_eq (n := 35) rfl h35
          clear h10 h32 h35 hn
          go_wp2_with fail
          go_loopw [7] (fun t wx => ∃ m : Nat, j + 1 ≤ m ∧ m ≤ s.size ∧ t = .int .i64 m ∧ Hid (endP (fun d => d != 10) s (j + 1) = endP (fun d => d != 10) s m) ∧ wx = wr) (fun t _ => s.size - (intOf t).toNat)
          case atStart => exact ⟨j + 1, Nat.le_refl _, by omega, by first | rfl | (congr 1), (show Hid _ from rfl), rfl⟩
          case round =>
            obtain ⟨m, hm0, hm1, rfl, HE, rfl⟩ := hrel
            have fin : ∀ q : Nat, endP (fun d => d != 10) s (j + 1) = q → q ≤ s.size → stepAt s j = (6, q - j) ∧ 1 ≤ q - j ∧ j + (q - j) ≤ s.size ∧ j + (q - j) = q := fun q hq hqs => by
              have h1 := hst.out
              unfold endP at hq
              refine ⟨?_, by omega, by omega, by omega⟩
              rw [h1]; congr 1; omega
            have FIN := Lib.hid fin
            clear fin
            by_cases hml : m < s.size
            · by_cases hm10 : s[m] = 10
              · have b4 := byte_eq' (n := 10) rfl hm10
                have HF := Lib.hid (FIN.out m (by rw [HE.out, endP_no hml (by rw [hm10]; rfl)]) hm1)
                clear hm10
                go_wp2_with fail
                go_meet
                obtain ⟨f1, f2, f3, f4⟩ := HF.out
                exact ⟨m - j, 6, f1, f2, f3, by rw [f4], rfl, Below.refl _ _⟩
              · have b4 := byte_ne' (n := 10) rfl hm10
                have HE2 : Hid (endP (fun d => d != 10) s (j + 1) = endP (fun d => d != 10) s (m + 1)) := Lib.hid (by rw [HE.out, endP_yes hml (by simpa using hm10)])
                clear hm10
                go_wp2_with fail
                exact ⟨⟨m + 1, by omega, by omega, by congr 1, HE2, trivial⟩, by simp [intOf]; omega⟩
            · obtain rfl : m = s.size := by omega
              have HF := Lib.hid (FIN.out s.size (by rw [HE.out, endP_last]) (Nat.le_refl _))
              go_wp2_with fail
              go_meet
              obtain ⟨f1, f2, f3, f4⟩ := HF.out
              exact ⟨s.size - j, 6, f1, f2, f3, by rw [f4], rfl, Below.refl _ _⟩
        have b3 := byte_ne (n := 35) rfl h35
        cases hl : PLex.isLet s[j] with
        | true =>
          have hst := Lib.hid (stepAt_word hlt hn h35 hl)
          have HC : Hid (∀ w, Calls Tryz.prog 40 #[.int .u8 s[j].toNat, .string { data := #[97, 98, 99, 100, 101, 102, 103, 104, 105, 106, 107, 108, 109, 110, 111, 112, 113, 114, 115, 116, 117, 118, 119, 120, 121, 122] }] w fun e w' => e = .returned (.bool true) ∧ w = w') := Lib.hid (fun w => by have := HL.out s[j] w; rw [hl] at this; exact this)
          have HE : Hid (∀ w, Calls Tryz.prog 41 #[.string s, .int .i64 j, .string { data := #[97, 98, 99, 100, 101, 102, 103, 104, 105, 106, 107, 108, 109, 110, 111, 112, 113, 114, 115, 116, 117, 118, 119, 120, 121, 122, 48, 49, 50, 51, 52, 53, 54, 55, 56, 57] }] w fun e w' => e = .returned (.int .i64 (endOf alL.data.toList s j : Nat)) ∧ w = w') := Lib.hid (fun w => refend_any s alL j w (by omega) (by decide) hj)
          obtain ⟨q0, q1⟩ := endOf_le (l := alL.data.toList) (s := s) hj
          have q2 : j + 1 ≤ endOf alL.data.toList s j := by rw [endOf_by al_in hlt (let_al hl)]; omega
          obtain ⟨q, hq⟩ : ∃ q, endOf alL.data.toList s j = q := ⟨_, rfl⟩
          rw [hq] at HE q0 q1 q2 hst
          clear hq h10 h32 h35 hn hl
          by_cases h13 : q - j < 13
          · have i1 : (q : Int) - (j : Int) < 13 := by omega
            have g : Hid (stepAt s j = (1, q - j)) := Lib.hid (by rw [hst.out, if_pos h13])
            clear hst
            go_wp2_with fail
            refine (HC.out _).mono ?_
            rintro _ _ ⟨rfl, rfl⟩
            go_wp2_with fail
            refine (HE.out _).mono ?_
            rintro _ _ ⟨rfl, rfl⟩
            go_wp2_with fail
            go_meet
            exact ⟨q - j, 1, g.out, by omega, by omega, by rw [show j + (q - j) = q by omega], rfl, Below.refl _ _⟩
          · have i1 : ¬ (q : Int) - (j : Int) < 13 := by omega
            have g : Hid (stepAt s j = (0, q - j)) := Lib.hid (by rw [hst.out, if_neg h13])
            clear hst
            go_wp2_with fail
            refine (HC.out _).mono ?_
            rintro _ _ ⟨rfl, rfl⟩
            go_wp2_with fail
            refine (HE.out _).mono ?_
            rintro _ _ ⟨rfl, rfl⟩
            go_wp2_with fail
            go_meet
            exact ⟨q - j, 0, g.out, by omega, by omega, by rw [show j + (q - j) = q by omega], rfl, Below.refl _ _⟩
        | false =>
        have HC : Hid (∀ w, Calls Tryz.prog 40 #[.int .u8 s[j].toNat, .string { data := #[97, 98, 99, 100, 101, 102, 103, 104, 105, 106, 107, 108, 109, 110, 111, 112, 113, 114, 115, 116, 117, 118, 119, 120, 121, 122] }] w fun e w' => e = .returned (.bool false) ∧ w = w') := Lib.hid (fun w => by have := HL.out s[j] w; rw [hl] at this; exact this)
        cases hd : PLex.isDig s[j] with
        | true =>
          have hst := Lib.hid (stepAt_run hlt hn h35 hl hd)
          have HC2 : Hid (∀ w, Calls Tryz.prog 40 #[.int .u8 s[j].toNat, .string { data := #[48, 49, 50, 51, 52, 53, 54, 55, 56, 57] }] w fun e w' => e = .returned (.bool true) ∧ w = w') := Lib.hid (fun w => by have := HD.out s[j] w; rw [hd] at this; exact this)
          have HE : Hid (∀ w, Calls Tryz.prog 41 #[.string s, .int .i64 j, .string { data := #[48, 49, 50, 51, 52, 53, 54, 55, 56, 57, 46, 37] }] w fun e w' => e = .returned (.int .i64 (endOf runL.data.toList s j : Nat)) ∧ w = w') := Lib.hid (fun w => refend_any s runL j w (by omega) (by decide) hj)
          obtain ⟨q0, q1⟩ := endOf_le (l := runL.data.toList) (s := s) hj
          have q2 : j + 1 ≤ endOf runL.data.toList s j := by rw [endOf_by run_in hlt (dig_run hd)]; omega
          obtain ⟨q, hq⟩ : ∃ q, endOf runL.data.toList s j = q := ⟨_, rfl⟩
          rw [hq] at HE q0 q1 q2 hst
          have HK : Hid (∀ w, Calls Tryz.prog 42 #[.string (s.extract j q)] w fun e w' => e = .returned (.int .i64 (stepAt s j).1) ∧ Below w.heap.size w w') := Lib.hid (fun w => by
            have := refkind_any (s.extract j q) w (by rw [ByteArray.size_extract]; omega)
            rw [slice_list] at this
            rw [hst.out]; exact this)
          have hk6 : (stepAt s j).1 ≠ 6 := by
            rw [hst.out]; show PLex.kindOf _ ≠ 6
            unfold PLex.kindOf; (repeat' split) <;> omega
          have hsn : (stepAt s j).2 = q - j := by rw [hst.out]
          obtain ⟨k, hk⟩ : ∃ k, (stepAt s j).1 = k := ⟨_, rfl⟩
          rw [hk] at HK hk6
          have HST : Hid (stepAt s j = (k, q - j)) := Lib.hid (by rw [← hk, ← hsn])
          clear hq h10 h32 h35 hn hl hd hst hk hsn
          go_wp2_with fail
          refine (HC.out _).mono ?_
          rintro _ _ ⟨rfl, rfl⟩
          go_wp2_with fail
          refine (HC2.out _).mono ?_
          rintro _ _ ⟨rfl, rfl⟩
          go_wp2_with fail
          refine (HE.out _).mono ?_
          rintro _ _ ⟨rfl, rfl⟩
          go_wp2_with fail
          refine (HK.out _).mono ?_
          rintro _ w5 ⟨rfl, b5⟩
          have B5 := Lib.hid b5
          clear b5
          go_wp2_with fail
          go_meet
          exact ⟨q - j, k, HST.out, by omega, by omega, by rw [show j + (q - j) = q by omega], by rw [if_neg hk6], B5.out⟩
        | false =>
        have HC2 : Hid (∀ w, Calls Tryz.prog 40 #[.int .u8 s[j].toNat, .string { data := #[48, 49, 50, 51, 52, 53, 54, 55, 56, 57] }] w fun e w' => e = .returned (.bool false) ∧ w = w') := Lib.hid (fun w => by have := HD.out s[j] w; rw [hd] at this; exact this)
        cases hg : PLex.isSgn s[j] with
        | true =>
          have hst := stepAt_sign hlt hn h35 hl hd hg
          have HC3 : Hid (∀ w, Calls Tryz.prog 40 #[.int .u8 s[j].toNat, .string { data := #[61, 60, 62, 43, 45, 42, 40, 41, 44, 59] }] w fun e w' => e = .returned (.bool true) ∧ w = w') := Lib.hid (fun w => by have := HG.out s[j] w; rw [hg] at this; exact this)
          obtain ⟨t, ht⟩ : ∃ t, t = j + 1 := ⟨_, rfl⟩
          have t1 : (j : Int) + 1 = (t : Int) := by omega
          have hjt : j < t := by omega
          rw [← ht] at hst
          have HT1 := Lib.hid ht
          by_cases htl : t < s.size
          · rw [drop_at htl] at hst
            have e60 : s[j] = 60 ∨ s[j] ≠ 60 := Decidable.em _
            have e62 : s[j] = 62 ∨ s[j] ≠ 62 := Decidable.em _
            have e61 : s[t] = 61 ∨ s[t] ≠ 61 := Decidable.em _
            have e6 : s[t] = 62 ∨ s[t] ≠ 62 := Decidable.em _
            clear h10 h32 h35 hn hl hd hg ht
            rcases e60 with e60 | e60
            · have f60 := byte_eq (n := 60) rfl e60
              rcases e61 with e61 | e61
              · have f61 := byte_eq (n := 61) rfl e61
                have g : Hid (stepAt s j = (5, 2)) := Lib.hid (by rw [hst, e60, e61]; rfl)
                clear hst e60 e61 e62 e6
                go_wp2_with fail
                refine (HC.out _).mono ?_
                rintro _ _ ⟨rfl, rfl⟩
                go_wp2_with fail
                refine (HC2.out _).mono ?_
                rintro _ _ ⟨rfl, rfl⟩
                go_wp2_with fail
                refine (HC3.out _).mono ?_
                rintro _ _ ⟨rfl, rfl⟩
                go_wp2_with fail
                go_meet
                exact ⟨2, 5, g.out, by omega, by omega, by first | rfl | (congr 1; omega) | (congr 1), rfl, Below.refl _ _⟩
              · have f61 := byte_ne (n := 61) rfl e61
                rcases e6 with e6 | e6
                · have f6 := byte_eq (n := 62) rfl e6
                  have g : Hid (stepAt s j = (5, 2)) := Lib.hid (by rw [hst, e60, e6]; rfl)
                  clear hst e60 e61 e62 e6
                  go_wp2_with fail
                  refine (HC.out _).mono ?_
                  rintro _ _ ⟨rfl, rfl⟩
                  go_wp2_with fail
                  refine (HC2.out _).mono ?_
                  rintro _ _ ⟨rfl, rfl⟩
                  go_wp2_with fail
                  refine (HC3.out _).mono ?_
                  rintro _ _ ⟨rfl, rfl⟩
                  go_wp2_with fail
                  go_meet
                  exact ⟨2, 5, g.out, by omega, by omega, by first | rfl | (congr 1; omega) | (congr 1), rfl, Below.refl _ _⟩
                · have f6 := byte_ne (n := 62) rfl e6
                  have f62 := byte_ne (n := 62) rfl (show s[j] ≠ 62 by rw [e60]; decide)
                  have g : Hid (stepAt s j = (5, 1)) := Lib.hid (by rw [hst, e60]; simp [PLex.two, e61, e6])
                  clear hst e60 e61 e62 e6
                  go_wp2_with fail
                  refine (HC.out _).mono ?_
                  rintro _ _ ⟨rfl, rfl⟩
                  go_wp2_with fail
                  refine (HC2.out _).mono ?_
                  rintro _ _ ⟨rfl, rfl⟩
                  go_wp2_with fail
                  refine (HC3.out _).mono ?_
                  rintro _ _ ⟨rfl, rfl⟩
                  go_wp2_with fail
                  go_meet
                  exact ⟨1, 5, g.out, by omega, by omega, by first | rfl | (congr 1; omega) | (congr 1), rfl, Below.refl _ _⟩
            · have f60 := byte_ne (n := 60) rfl e60
              rcases e62 with e62 | e62
              · have f62 := byte_eq (n := 62) rfl e62
                rcases e61 with e61 | e61
                · have f61 := byte_eq (n := 61) rfl e61
                  have g : Hid (stepAt s j = (5, 2)) := Lib.hid (by rw [hst, e62, e61]; rfl)
                  clear hst e60 e61 e62 e6
                  go_wp2_with fail
                  refine (HC.out _).mono ?_
                  rintro _ _ ⟨rfl, rfl⟩
                  go_wp2_with fail
                  refine (HC2.out _).mono ?_
                  rintro _ _ ⟨rfl, rfl⟩
                  go_wp2_with fail
                  refine (HC3.out _).mono ?_
                  rintro _ _ ⟨rfl, rfl⟩
                  go_wp2_with fail
                  go_meet
                  exact ⟨2, 5, g.out, by omega, by omega, by first | rfl | (congr 1; omega) | (congr 1), rfl, Below.refl _ _⟩
                · have f61 := byte_ne (n := 61) rfl e61
                  have g : Hid (stepAt s j = (5, 1)) := Lib.hid (by rw [hst, e62]; simp [PLex.two, e61])
                  clear hst e60 e61 e62 e6
                  go_wp2_with fail
                  refine (HC.out _).mono ?_
                  rintro _ _ ⟨rfl, rfl⟩
                  go_wp2_with fail
                  refine (HC2.out _).mono ?_
                  rintro _ _ ⟨rfl, rfl⟩
                  go_wp2_with fail
                  refine (HC3.out _).mono ?_
                  rintro _ _ ⟨rfl, rfl⟩
                  go_wp2_with fail
                  go_meet
                  exact ⟨1, 5, g.out, by omega, by omega, by first | rfl | (congr 1; omega) | (congr 1), rfl, Below.refl _ _⟩
              · have f62 := byte_ne (n := 62) rfl e62
                have g : Hid (stepAt s j = (5, 1)) := Lib.hid (by rw [hst]; simp [PLex.two, e60, e62])
                clear hst e60 e61 e62 e6
                go_wp2_with fail
                refine (HC.out _).mono ?_
                rintro _ _ ⟨rfl, rfl⟩
                go_wp2_with fail
                refine (HC2.out _).mono ?_
                rintro _ _ ⟨rfl, rfl⟩
                go_wp2_with fail
                refine (HC3.out _).mono ?_
                rintro _ _ ⟨rfl, rfl⟩
                go_wp2_with fail
                go_meet
                exact ⟨1, 5, g.out, by omega, by omega, by first | rfl | (congr 1; omega) | (congr 1), rfl, Below.refl _ _⟩
          · have g : Hid (stepAt s j = (5, 1)) := Lib.hid (by rw [hst, List.drop_of_length_le (by simp; omega)]; rfl)
            have t2 : ¬ (t : Int) < (s.size : Int) := by omega
            clear hst h10 h32 h35 hn hl hd hg ht
            go_wp2_with fail
            refine (HC.out _).mono ?_
            rintro _ _ ⟨rfl, rfl⟩
            go_wp2_with fail
            refine (HC2.out _).mono ?_
            rintro _ _ ⟨rfl, rfl⟩
            go_wp2_with fail
            refine (HC3.out _).mono ?_
            rintro _ _ ⟨rfl, rfl⟩
            go_wp2_with fail
            go_meet
            exact ⟨1, 5, g.out, by omega, by omega, by first | rfl | (congr 1; omega) | (congr 1), rfl, Below.refl _ _⟩
        | false =>
          have hst := Lib.hid (stepAt_none hlt hn h35 hl hd hg)
          have HC3 : Hid (∀ w, Calls Tryz.prog 40 #[.int .u8 s[j].toNat, .string { data := #[61, 60, 62, 43, 45, 42, 40, 41, 44, 59] }] w fun e w' => e = .returned (.bool false) ∧ w = w') := Lib.hid (fun w => by have := HG.out s[j] w; rw [hg] at this; exact this)
          clear h10 h32 h35 hn hl hd hg
          go_wp2_with fail
          refine (HC.out _).mono ?_
          rintro _ _ ⟨rfl, rfl⟩
          go_wp2_with fail
          refine (HC2.out _).mono ?_
          rintro _ _ ⟨rfl, rfl⟩
          go_wp2_with fail
          refine (HC3.out _).mono ?_
          rintro _ _ ⟨rfl, rfl⟩
          go_wp2_with fail
          go_meet
          exact ⟨1, 0, hst.out, by omega, by omega, by first | rfl | (congr 1), rfl, Below.refl _ _⟩
      case rest =>
        obtain ⟨n, kk, hst, hn1, hn2, rfl, rfl, hb⟩ := hcut
        have HO2 := Lib.hid (own_stays HO.out hb)
        have HB2 := Lib.hid (below_step HB.out hb)
        have hsz := HB2.out.size
        clear hb HB HO
        obtain ⟨z, hto⟩ : ∃ z, z = j + n := ⟨_, rfl⟩
        rw [← hto] at hn2 ⊢
        have hjt : j < z := by omega
        have hjz : j ≤ z := by omega
        by_cases h0 : kk = 0
        · subst h0
          have HF := Lib.hid (told_bad HT.out hlt hst)
          clear hst hto
          rw [if_neg (show ¬ (0 = 6) by omega)]
          go_wp2_with fail
          go_ret2
          exact refAll_bad HF.out HB2.out
        · by_cases h6 : kk = 6
          · subst h6
            have HT2 : Hid (told s z ts) := Lib.hid (by rw [hto]; exact told_skip HT.out hlt hst)
            clear hst hto h0
            rw [if_pos rfl]
            go_wp2_with fail
            exact ⟨⟨z, ts, hn2, rfl, by omega, HT2, HO2, HB2⟩, by simp [intOf]; omega⟩
          · rw [if_neg h6]
            have k0 : ((kk : Int) == 0) = false := by rw [beq_eq_false_iff_ne]; omega
            have k1 : 0 < (kk : Int) := by omega
            have HT2 : Hid (told s z (ts ++ [⟨kk, (s.data.toList.drop j).take (z - j), j⟩])) := Lib.hid (by rw [hto, Nat.add_sub_cancel_left]; exact told_word HT.out hlt hst h0 h6)
            clear hst hto h0 h6
            go_wp2_with (at_builtin; refine append_tok ref_tokTy rfl _ _ rfl w.heap.size _ ts kk (s.extract j z) j (by rfl) HO2.out (by rfl) (by omega) hsz ?_)
            intro v' w7 hown hb7
            have HO7 : Hid (w7.ownsRow w.heap.size 74 3 v' (ts.length + 1) (cellsT (ts ++ [⟨kk, (s.data.toList.drop j).take (z - j), j⟩]))) := Lib.hid (by first | exact hown | (rw [← slice_list]; exact hown))
            have HB7 := Lib.hid (HB2.out.trans hb7)
            clear hown hb7
            go_wp2_with fail
            refine ⟨⟨z, ts ++ [⟨kk, (s.data.toList.drop j).take (z - j), j⟩], hn2, rfl, by rw [List.length_append]; simp; omega, HT2, Lib.hid (by rw [List.length_append, List.length_singleton]; exact HO7.out), HB7⟩, by simp [intOf]; omega⟩
    · obtain rfl : j = s.size := by omega
      have hf := told_last HT.out
      obtain ⟨A, cap, rfl, a1, a2, a3⟩ := slt_of_own HO.out rfl
      have HA := Lib.hid a1; have HC := Lib.hid a2; have HS := Lib.hid a3; have HF := Lib.hid hf
      clear hf a1 a2 a3 HO
      go_wp2_with fail
      go_ret2
      rw [HF.out]
      exact ⟨A, ts.length, cap, rfl, HA.out, HC.out, HS.out, HB.out⟩
end Go.Proofs.YtdkcdgjpcojdfaaGreatDoor
