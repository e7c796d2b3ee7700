/-
  RateExact: parts of any amount are what the document says, or refused.
-/
import Derived.Test.YtkbfhmdkcfbbgaaRatePro
import Derived.Test.YtkbfhmdkcfbbgaaLaw03Awake
import Derived.Test.YtkbfhmdkcfbbgaaSignBoth
import Derived.Test.YtkbfhmdkcfbbgaaRefRight
import Derived.Test.YtkbfhmdkcfbbgaaRef02Div
import Derived.Deep.DeepCutAuto
namespace Go.Proofs.Ytkbfhmdkcfbbgaa
open Go.RowKit

set_option maxHeartbeats 1600000 in
/-- What the law's own quotient answers: what MulDiv does. -/
theorem quotient_at {a b c m n e : Int} (h : md a b c m = (n, e)) (ha : -9223372036854775808 ≤ a) (ha' : a ≤ 9223372036854775807) (hb : 0 ≤ b) (hb' : b ≤ 9223372036854775807) (hc : 0 < c) (hc' : c ≤ 9223372036854775807) (w : World) :
    Calls Try.prog 10 #[.int .i64 a, .int .i64 b, .int .i64 c, .int .i64 m] w fun r w' => r = .returned (.tuple #[.int .i64 n, .int .i64 e]) ∧ Below w.heap.size w w' := by
  unfold md at h
  by_cases h1 : m < 0 ∨ 3 < m
  · rw [if_pos h1] at h
    obtain ⟨rfl, rfl⟩ := Prod.mk.inj h
    clear h
    rcases h1 with h1 | h1
    · go_enter Try.func10, Try.ntmps10
      go_wp2_with fail
      go_ret2
      exact ⟨rfl, Below.refl _ _⟩
    · go_enter Try.func10, Try.ntmps10
      go_wp2_with fail
      go_ret2
      exact ⟨rfl, Below.refl _ _⟩
  · rw [if_neg h1] at h
    obtain ⟨j, rfl⟩ : ∃ j : Nat, m = j := ⟨m.toNat, by omega⟩
    rw [Int.toNat_natCast] at h
    have hj : j ≤ 3 := by omega
    clear h1
    by_cases h2 : a < -9223372036854775807
    · rw [if_pos (.inl h2)] at h
      obtain ⟨rfl, rfl⟩ := Prod.mk.inj h
      clear h
      go_enter Try.func10, Try.ntmps10
      go_wp2_with fail
      refine (refright_no' a _ (by omega)).mono ?_
      rintro _ _ ⟨rfl, rfl⟩
      go_wp2_with fail
      go_ret2
      exact ⟨rfl, Below.refl _ _⟩
    · rw [if_neg (by omega), if_neg (by omega)] at h
      have D := Lib.hid (fun w => refdiv_any a b c j w ha ha' (by omega) hb' (by omega) hc' (by omega) hj)
      by_cases h3 : 9223372036854775807 < PDigs.rounded j (a.natAbs * b.natAbs) c.natAbs
      · rw [if_pos h3] at h
        obtain ⟨rfl, rfl⟩ := Prod.mk.inj h
        rw [divAns_no h3] at D
        clear h h3
        go_enter Try.func10, Try.ntmps10
        go_wp2_with fail
        refine (refright_yes' a _ (by omega)).mono ?_
        rintro _ _ ⟨rfl, rfl⟩
        go_wp2_with fail
        refine (D.out _).mono ?_
        rintro _ w1 ⟨rfl, b1⟩
        go_wp2_with fail
        go_ret2
        exact ⟨rfl, b1⟩
      · rw [if_neg h3] at h
        obtain ⟨hn, rfl⟩ := Prod.mk.inj h
        rw [divAns_yes h3 ((sign_both a b c j (by omega)).trans hn)] at D
        clear h h3 hn
        go_enter Try.func10, Try.ntmps10
        go_wp2_with fail
        refine (refright_yes' a _ (by omega)).mono ?_
        rintro _ _ ⟨rfl, rfl⟩
        go_wp2_with fail
        refine (D.out _).mono ?_
        rintro _ w1 ⟨rfl, b1⟩
        go_wp2_with fail
        go_ret2
        exact ⟨rfl, b1⟩

set_option maxHeartbeats 3200000 in
set_option maxRecDepth 100000 in
theorem rexact_any (a b p q m n e k f : Int) (w : World) (ha : -9223372036854775808 ≤ a) (ha' : a ≤ 9223372036854775807) (hq' : q ≤ 9223372036854775807) (h1 : ofP a b m = (n, e)) (h2 : prP a p q m = (k, f)) :
    Calls Try.prog 3 #[.int .i64 a, .int .i64 b, .int .i64 p, .int .i64 q, .int .i64 m] w fun e w' => e = .returned (.bool true) ∧ Below w.heap.size w w' := by
  have M1 := Lib.hid (of_at h1 ha ha')
  have M2 := Lib.hid (prorate_at h2 ha ha' hq')
  have H1 := Lib.hid h1; have H2 := Lib.hid h2
  clear h1 h2
  go_enter Try.func3, Try.ntmps3
  go_wp2_with fail
  refine (M1.out _).mono ?_
  rintro _ w1 ⟨rfl, b1⟩
  go_wp2_with fail
  refine (M2.out _).mono ?_
  rintro _ w2 ⟨rfl, b2⟩
  have b2' := below_step b1 b2
  clear b1 b2
  go_upto_region 4 with fail
  obtain ⟨cb, hcb⟩ : ∃ cb : Bool, decide (0 ≤ b ∧ b ≤ 10000) = cb := ⟨_, rfl⟩
  obtain ⟨cq, hcq⟩ : ∃ cq : Bool, decide (1 ≤ q ∧ 0 ≤ p ∧ p ≤ q) = cq := ⟨_, rfl⟩
  have HCB := Lib.hid hcb; have HCQ := Lib.hid hcq
  clear hcb hcq
  go_cut [39] (fun c wx => c = .bool cb ∧ w2 = wx)
  case first =>
    by_cases h0 : 0 ≤ b
    · by_cases h1 : b ≤ 10000
      · obtain rfl : cb = true := by rw [← HCB.out]; exact decide_eq_true ⟨h0, h1⟩
        go_wp2_with fail
        go_meet
        exact ⟨rfl, rfl⟩
      · obtain rfl : cb = false := by rw [← HCB.out]; exact decide_eq_false (fun h => h1 h.2)
        have h2 : 10000 < b := by omega
        go_wp2_with fail
        go_meet
        exact ⟨by first | rfl | (simp; done) | (simp; omega), rfl⟩
    · obtain rfl : cb = false := by rw [← HCB.out]; exact decide_eq_false (fun h => h0 h.1)
      have h2 : b < 0 := by omega
      go_wp2_with fail
      go_meet
      exact ⟨rfl, rfl⟩
  case rest =>
    obtain ⟨rfl, rfl⟩ := hcut
    go_upto_if 39 with fail
    go_cut [15, 16] (fun x g wx => x = .int .i64 n ∧ g = .int .i64 e ∧ Below w.heap.size w wx)
    case first =>
      cases cb
      · have h : ¬ (0 ≤ b ∧ b ≤ 10000) := of_decide_eq_false HCB.out
        have hh := H1.out
        unfold ofP at hh
        rw [if_neg h] at hh
        obtain ⟨rfl, rfl⟩ := Prod.mk.inj hh
        clear h hh
        go_wp2_with fail
        go_meet
        exact ⟨rfl, rfl, b2'⟩
      · have h : 0 ≤ b ∧ b ≤ 10000 := of_decide_eq_true HCB.out
        have hh := H1.out
        unfold ofP at hh
        rw [if_pos h] at hh
        have Q := Lib.hid (quotient_at hh ha ha' h.1 (by omega) (by omega) (by omega))
        clear h hh
        go_wp2_with fail
        refine (Q.out _).mono ?_
        rintro _ w3 ⟨rfl, b3⟩
        go_wp2_with fail
        go_meet
        exact ⟨rfl, rfl, below_step b2' b3⟩
    case rest =>
      obtain ⟨rfl, rfl, hbc⟩ := hcut
      clear b2'
      go_upto_region 7 with fail
      go_cut [57] (fun c wx => c = .bool cq ∧ wc = wx)
      case first =>
        by_cases h0 : 1 ≤ q
        · by_cases h1 : 0 ≤ p
          · by_cases h2 : p ≤ q
            · obtain rfl : cq = true := by rw [← HCQ.out]; exact decide_eq_true ⟨h0, h1, h2⟩
              go_wp2_with fail
              go_meet
              exact ⟨rfl, rfl⟩
            · obtain rfl : cq = false := by rw [← HCQ.out]; exact decide_eq_false (fun h => h2 h.2.2)
              have h3 : q < p := by omega
              go_wp2_with fail
              go_meet
              exact ⟨by first | rfl | (simp; done) | (simp; omega), rfl⟩
          · obtain rfl : cq = false := by rw [← HCQ.out]; exact decide_eq_false (fun h => h1 h.2.1)
            have h3 : p < 0 := by omega
            go_wp2_with fail
            go_meet
            exact ⟨by first | rfl | (simp; omega), rfl⟩
        · obtain rfl : cq = false := by rw [← HCQ.out]; exact decide_eq_false (fun h => h0 h.1)
          have h3 : q < 1 := by omega
          go_wp2_with fail
          go_meet
          exact ⟨by first | rfl | (simp; omega), rfl⟩
      case rest =>
        obtain ⟨rfl, rfl⟩ := hcut
        go_upto_if 57 with fail
        go_cut [17, 18] (fun x g wx => x = .int .i64 k ∧ g = .int .i64 f ∧ Below w.heap.size w wx)
        case first =>
          cases cq
          · have h : ¬ (1 ≤ q ∧ 0 ≤ p ∧ p ≤ q) := of_decide_eq_false HCQ.out
            have hh := H2.out
            unfold prP at hh
            rw [if_neg h] at hh
            obtain ⟨rfl, rfl⟩ := Prod.mk.inj hh
            clear h hh
            go_wp2_with fail
            go_meet
            exact ⟨rfl, rfl, hbc⟩
          · have h : 1 ≤ q ∧ 0 ≤ p ∧ p ≤ q := of_decide_eq_true HCQ.out
            have hh := H2.out
            unfold prP at hh
            rw [if_pos h] at hh
            have Q := Lib.hid (quotient_at hh ha ha' h.2.1 (by omega) (by omega) (by omega))
            clear h hh
            go_wp2_with fail
            refine (Q.out _).mono ?_
            rintro _ w3 ⟨rfl, b3⟩
            go_wp2_with fail
            go_meet
            exact ⟨rfl, rfl, below_step hbc b3⟩
        case rest =>
          obtain ⟨rfl, rfl, hbd⟩ := hcut
          clear hbc M1 M2 H1 H2 HCQ
          have HBD := Lib.hid hbd; clear hbd
          by_cases h : 0 ≤ b ∧ b ≤ 10000
          · have R := Lib.hid (rate_yes b · h)
            obtain ⟨h0, h1⟩ := h
            clear HCB
            go_wp2_with fail
            refine (R.out _).mono ?_
            rintro _ _ ⟨rfl, rfl⟩
            go_wp2_with fail
            refine (awake_any _).mono ?_
            rintro _ w4 ⟨rfl, b4⟩
            go_wp2
            go_ret
            exact ⟨rfl, below_step HBD.out b4⟩
          · have R := Lib.hid (rate_no b · h)
            clear HCB
            by_cases h0 : 0 ≤ b
            · have h2 : 10000 < b := by omega
              clear h
              go_wp2_with fail
              refine (R.out _).mono ?_
              rintro _ _ ⟨rfl, rfl⟩
              go_wp2_with fail
              refine (awake_any _).mono ?_
              rintro _ w4 ⟨rfl, b4⟩
              go_wp2
              go_ret
              exact ⟨by first | rfl | (simp; omega), below_step HBD.out b4⟩
            · have h2 : b < 0 := by omega
              clear h h0
              go_wp2_with fail
              refine (R.out _).mono ?_
              rintro _ _ ⟨rfl, rfl⟩
              go_wp2_with fail
              refine (awake_any _).mono ?_
              rintro _ w4 ⟨rfl, b4⟩
              go_wp2
              go_ret
              exact ⟨rfl, below_step HBD.out b4⟩

theorem rexact_walk (a b p q m : Int) (w : World) (ha : (Lit.int .i64 a).wf = true) (_ : (Lit.int .i64 b).wf = true) (_ : (Lit.int .i64 p).wf = true) (hq : (Lit.int .i64 q).wf = true) (_ : (Lit.int .i64 m).wf = true) :
    Calls Try.prog 3 #[.int .i64 a, .int .i64 b, .int .i64 p, .int .i64 q, .int .i64 m] w fun e w' => e = .returned (.bool true) ∧ Below w.heap.size w w' :=
  rexact_any a b p q m _ _ _ _ w (i64_bounds ha).1 (i64_bounds ha).2 (i64_bounds hq).2 rfl rfl
end Go.Proofs.Ytkbfhmdkcfbbgaa
