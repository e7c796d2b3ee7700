/-
  SplitExact: any amount, by any weights, is split as the document says, or refused; so it is into parts that are alike.
-/
import Derived.Test.YtijjagnlfhiogaaLaw04Even
import Derived.Deep.DeepCutAuto
import Derived.Deep.CutBlock
namespace PSplit
open Go Go.Proofs.Ytijjagnlfhiogaa
/-- Which error, case by case. -/
theorem errOf_cases {T : Int} {ws : List Int} {b ok : Bool} {s : Int} (hb : b = true ↔ T < 0 ∨ ∃ i, i < ws.length ∧ ws.getD i 0 < 0) (h1 : ok = true → sumFrom 0 ws = some s) (h2 : ok = false → sumFrom 0 ws = none) :
    (60 < ws.length → errOf T ws = 9) ∧ (¬ 60 < ws.length → b = true → errOf T ws = 1) ∧ (¬ 60 < ws.length → b = false → ok = false → errOf T ws = 3) ∧ (¬ 60 < ws.length → b = false → ok = true → s = 0 → errOf T ws = 4) ∧ (¬ 60 < ws.length → b = false → ok = true → s ≠ 0 → errOf T ws = 0) := by
  have hb' : b = false → ¬ (T < 0 ∨ ∃ i, i < ws.length ∧ ws.getD i 0 < 0) := fun h k => by rw [hb.2 k] at h; cases h
  unfold errOf
  refine ⟨fun h => if_pos h, fun h k => ?_, fun h k o => ?_, fun h k o z => ?_, fun h k o z => ?_⟩
  · rw [if_neg h, if_pos (hb.1 k)]
  · rw [if_neg h, if_neg (hb' k), h2 o]
  · rw [if_neg h, if_neg (hb' k), h1 o]; exact if_pos z
  · rw [if_neg h, if_neg (hb' k), h1 o]; exact if_neg z
theorem refSum_parts (ws : List Int) : ∃ s ok, refSumV ws = .tuple #[.int .i64 s, .bool ok] ∧ (ok = true → sumFrom 0 ws = some s) ∧ (ok = false → sumFrom 0 ws = none) := by
  cases h : sumFrom 0 ws with
  | none => exact ⟨0, false, refSumV_none h, fun h => by (cases h), fun _ => rfl⟩
  | some s => exact ⟨s, true, refSumV_some h, fun _ => rfl, fun h => by (cases h)⟩
/-- What Even answers. -/
def evenE (T m : Int) : Int := if m < 1 then 1 else if 60 < m then 9 else errOf T (List.replicate m.toNat 1)
def evenK (T m : Int) : List Int := if m < 1 then [] else if 60 < m then [] else listOf T (List.replicate m.toNat 1)
end PSplit
namespace Go.Proofs.Ytijjagnlfhiogaa
open Go.RowKit

theorem even_any (T m : Int) (w : World) (hT : T ≤ 9223372036854775807) : Calls Try.prog 10 #[.int .i64 T, .int .i64 m] w (SplR (PSplit.evenK T m) (PSplit.evenE T m) w) := by
  unfold PSplit.evenK PSplit.evenE
  by_cases h1 : m < 1
  · rw [if_pos h1, if_pos h1]; exact even_low T m w h1
  by_cases h2 : 60 < m
  · rw [if_neg h1, if_pos h2, if_neg h1, if_pos h2]; exact even_high T m w h2
  · rw [if_neg h1, if_neg h2, if_neg h1, if_neg h2]
    have := even_mid T m.toNat w hT (by omega) (by omega)
    rw [show ((m.toNat : Nat) : Int) = m by omega] at this
    exact this

/-- The reference's Split where there is no error. -/
theorem refsplit_list (T : Int) (A : Option Addr) (n cap : Nat) (ws : List Int) (w : World) (hA : Sl w A n ws) (hT : T ≤ 9223372036854775807) (he : PSplit.errOf T ws = 0) :
    Calls Try.prog 13 #[.int .i64 T, .slice A n cap] w (SlR (PSplit.listOf T ws) w) := by
  obtain ⟨e1, e2, e3, e4, e5, e6⟩ := PSplit.errOf_zero he
  have hlen := hA.1
  have := refsplit_any T.toNat (PSplit.sumN (PSplit.wOf ws) ws.length) n (PSplit.wOf ws) A cap ws w hA (fun i hi => by have := e3 i (by omega); unfold PSplit.wOf; omega) (by omega) e4 (by rw [hlen]) e5 (by omega) e6
  rw [show ((T.toNat : Nat) : Int) = T by omega] at this
  rw [show PSplit.listOf T ws = PSplit.partsOf T ws by unfold PSplit.listOf; rw [if_pos he]]
  unfold PSplit.partsOf
  rw [hlen] at this ⊢
  exact this

set_option maxHeartbeats 6400000 in
set_option maxRecDepth 100000 in
theorem exact_in (T m : Int) (A : Option Addr) (n cap : Nat) (ws : List Int) (w : World) (hA : Sl w A n ws) (hT : T ≤ 9223372036854775807) (h100 : ¬ 100 < n) :
    Calls Try.prog 3 #[.int .i64 T, .slice A n cap, .int .i64 m] w fun e w' => e = .returned (.bool true) ∧ Below w.heap.size w w' := by
  have a1 : ¬ (100 : Int) < (n : Int) := by omega
  have hn := hA.1
  obtain ⟨s, ok, hV, ho1, ho2⟩ := PSplit.refSum_parts ws
  have HV := Lib.hid hV
  have HA := Lib.hid hA
  have HCS : Hid (∀ b : Bool, (b = true ↔ T < 0 ∨ ∃ i, i < n ∧ ws.getD i 0 < 0) → _) := Lib.hid (fun b hb => PSplit.errOf_cases (b := b) (ok := ok) (s := s) (by rw [hn]; exact hb) ho1 ho2)
  have HRS : Hid (∀ A c w, PSplit.errOf T ws = 0 → Sl w A n ws → Calls Try.prog 13 #[.int .i64 T, .slice A n c] w (SlR (PSplit.listOf T ws) w)) := Lib.hid (fun A c w he h => refsplit_list T A n c ws w h hT he)
  have HL0 : Hid (PSplit.errOf T ws ≠ 0 → PSplit.listOf T ws = []) := Lib.hid (fun h => by unfold PSplit.listOf; rw [if_neg h])
  have HSP : Hid (∀ A c w, Sl w A n ws → Calls Try.prog 9 #[.int .i64 T, .slice A n c] w (SplR (PSplit.listOf T ws) (PSplit.errOf T ws) w)) := Lib.hid (fun A c w h => split_any T A n c ws w h hT)
  have HEV := Lib.hid (fun w => even_any T m w hT)
  have HE1 : Hid (m < 1 → PSplit.evenE T m = 1 ∧ PSplit.evenK T m = []) := Lib.hid (fun h => by unfold PSplit.evenE PSplit.evenK; rw [if_pos h, if_pos h]; exact ⟨rfl, rfl⟩)
  have HE9 : Hid (60 < m → PSplit.evenE T m = 9 ∧ PSplit.evenK T m = []) := Lib.hid (fun h => by unfold PSplit.evenE PSplit.evenK; rw [if_neg (by omega), if_pos h, if_neg (by omega), if_pos h]; exact ⟨rfl, rfl⟩)
  have HE0 : Hid (1 ≤ m → m ≤ 60 → T < 0 → PSplit.evenE T m = 1 ∧ PSplit.evenK T m = []) := Lib.hid (fun h1 h2 h3 => by
    have he : PSplit.errOf T (List.replicate m.toNat 1) = 1 := by unfold PSplit.errOf; rw [List.length_replicate, if_neg (by omega), if_pos (.inl h3)]
    unfold PSplit.evenE PSplit.evenK PSplit.listOf
    rw [if_neg (by omega), if_neg (by omega), if_neg (by omega), if_neg (by omega), he, if_neg (by omega)]
    exact ⟨rfl, rfl⟩)
  have HEM : Hid (∀ k : Nat, m = (k : Int) → 1 ≤ k → k ≤ 60 → 0 ≤ T → PSplit.evenE T m = 0 ∧ ∀ A c w, Sl w A k (List.replicate k 1) → Calls Try.prog 13 #[.int .i64 T, .slice A k c] w (SlR (PSplit.evenK T m) w)) := Lib.hid (fun k hk h1 h2 h3 => by
    have ha := (PSplit.alike (T := T.toNat) (n := k) (v := 1) h1 h2 (Nat.le_refl _) (by omega)).1
    rw [show ((T.toNat : Nat) : Int) = T by omega, show ((1 : Nat) : Int) = 1 from rfl] at ha
    subst hk
    unfold PSplit.evenE PSplit.evenK
    rw [if_neg (by omega), if_neg (by omega), if_neg (by omega), if_neg (by omega), Int.toNat_natCast]
    exact ⟨ha, fun A c w h => refsplit_list T A k c _ w h hT ha⟩)
  clear hV ho1 ho2 hA h100
  generalize PSplit.errOf T ws = E at *
  generalize PSplit.listOf T ws = L at *
  generalize PSplit.evenE T m = F at *
  generalize PSplit.evenK T m = K at *
  go_enter Try.func3, Try.ntmps3
  go_wp2_with fail
  refine (HSP.out _ _ _ HA.out).mono ?_
  rintro _ w1 ⟨B, p, c, rfl, -, -, S1, b1⟩
  have HS1 := Lib.hid S1
  have HA1 := Lib.hid (HA.out.on b1)
  have HB1 := Lib.hid b1
  clear S1 b1
  go_wp2_with fail
  refine (HEV.out _).mono ?_
  rintro _ w2 ⟨B2, p2, c2, rfl, -, -, S2, b2⟩
  have HS2 := Lib.hid (HS1.out.on b2)
  have HK2 := Lib.hid S2
  have HA2 := Lib.hid (HA1.out.on b2)
  have HB2 := Lib.hid (below_step HB1.out b2)
  clear S2 b2 HS1 HA1 HB1 HSP HEV HA
  go_wp2_with fail
  go_loop [11, 38] (fun x i => ∃ (k : Nat) (b : Bool), k ≤ n ∧ i = .int .i64 k ∧ x = .bool b ∧ Hid (b = true ↔ T < 0 ∨ ∃ i, i < k ∧ ws.getD i 0 < 0)) (fun _ i => n - (intOf i).toNat)
  case atStart => exact ⟨0, decide (T < 0), Nat.zero_le _, rfl, rfl, (show Hid _ from by rw [decide_eq_true_eq]; exact ⟨fun h => .inl h, fun h => h.resolve_right (fun ⟨i, hi, _⟩ => by omega)⟩)⟩
  case round =>
    obtain ⟨k, b, hk, rfl, rfl, HBB⟩ := hrel
    by_cases hlt : k < n
    · obtain ⟨b2, o2, rfl, hc⟩ : ∃ b off, A = some ⟨b, off, none⟩ ∧ ∀ i, i < n → w2.cell? ⟨b, off + i, none⟩ = some (.int .i64 (ws.getD i 0)) := by
        rcases HA2.out.2.2.2 with h | h
        · omega
        · exact h
      have c1 := hc k hlt
      obtain ⟨x, hx⟩ : ∃ x, ws.getD k 0 = x := ⟨_, rfl⟩
      rw [hx] at c1
      have HN : Hid ((b || decide (x < 0)) = true ↔ T < 0 ∨ ∃ i, i < k + 1 ∧ ws.getD i 0 < 0) := Lib.hid (by
        rw [Bool.or_eq_true, decide_eq_true_eq, HBB.out]
        constructor
        · rintro ((h | ⟨i, hi, h⟩) | h)
          · exact .inl h
          · exact .inr ⟨i, by omega, h⟩
          · exact .inr ⟨k, by omega, by rw [hx]; exact h⟩
        · rintro (h | ⟨i, hi, h⟩)
          · exact .inl (.inl h)
          · by_cases e : i = k
            · subst e; exact .inr (by rw [← hx]; exact h)
            · exact .inl (.inr ⟨i, by omega, h⟩))
      clear hc hx
      have i1 : (0 : Int) ≤ (k : Int) := by omega
      have i2 : (k : Int) < (n : Int) := by omega
      cases b with
      | true =>
        go_wp2_with fail
        go_round
        case rel => exact ⟨k + 1, true, by omega, by congr 1, rfl, HN⟩
        case measure => simp [intOf]; omega
      | false =>
        go_wp2_with fail
        go_round
        case rel => exact ⟨k + 1, decide (x < 0), by omega, by congr 1, rfl, (show Hid _ from by have := HN.out; rwa [Bool.false_or] at this)⟩
        case measure => simp [intOf]; omega
    · obtain rfl : k = n := by omega
      obtain ⟨q1, q2, q3, q4, q5⟩ := HCS.out b HBB.out
      rw [hn] at q1 q2 q3 q4 q5
      have Q1 := Lib.hid q1; have Q2 := Lib.hid q2; have Q3 := Lib.hid q3; have Q4 := Lib.hid q4; have Q5 := Lib.hid q5
      clear q1 q2 q3 q4 q5 HCS HBB
      go_wp2_with fail
      refine (refsum_any _ k cap ws _ HA2.out).mono ?_
      rintro _ _ ⟨rfl, rfl⟩
      rw [HV.out]
      go_upto_block 2 with fail
      go_cut [16] (fun x wx => x = .int .i64 E ∧ w2 = wx)
      case first =>
        by_cases h1 : 60 < k
        · have h1' : (60 : Int) < (k : Int) := by omega
          have HE : Hid (E = 9) := Lib.hid (Q1.out h1)
          go_wp2_with fail
          go_meet
          exact ⟨by rw [HE.out], rfl⟩
        · have h1' : ¬ (60 : Int) < (k : Int) := by omega
          cases b with
          | true =>
            have HE : Hid (E = 1) := Lib.hid (Q2.out h1 rfl)
            go_wp2_with fail
            go_meet
            exact ⟨by rw [HE.out], rfl⟩
          | false =>
            cases ok with
            | false =>
              have HE : Hid (E = 3) := Lib.hid (Q3.out h1 rfl rfl)
              go_wp2_with fail
              go_meet
              exact ⟨by rw [HE.out], rfl⟩
            | true =>
              by_cases h4 : s = 0
              · have HE : Hid (E = 4) := Lib.hid (Q4.out h1 rfl rfl h4)
                subst h4
                go_wp2_with fail
                go_meet
                exact ⟨by rw [HE.out], rfl⟩
              · have HE : Hid (E = 0) := Lib.hid (Q5.out h1 rfl rfl h4)
                have h4' : (s == 0) = false := by rw [beq_eq_false_iff_ne]; exact h4
                go_wp2_with fail
                go_meet
                exact ⟨by rw [HE.out], rfl⟩
      case rest =>
        obtain ⟨rfl, rfl⟩ := hcut
        clear Q1 Q2 Q3 Q4 Q5 HV hn hlt
        go_upto_region 21 with fail
        go_cut [88] (fun x wx => x = .bool false ∧ Below w2.heap.size w2 wx)
        case first =>
          by_cases hE : E = 0
          · subst hE
            go_wp2_with fail
            refine (HRS.out _ _ _ (by first | trivial | rfl) HA2.out).mono ?_
            rintro _ w3 ⟨C, q, d, rfl, -, -, S3, b3⟩
            have HC3 := Lib.hid S3
            have HS3 := Lib.hid (HS2.out.on b3)
            have HB3 := Lib.hid b3
            clear S3 b3
            go_wp2_with fail
            refine (same_any B C p q c d _ _ _ HS3.out HC3.out).mono ?_
            rintro _ w4 ⟨rfl, b4⟩
            rw [decide_eq_true (rfl : L = L)]
            have HB4 := Lib.hid (below_step HB3.out b4)
            clear b4
            go_wp2_with fail
            go_meet
            exact ⟨rfl, HB4.out⟩
          · have hL := HL0.out hE
            have e1 : (E != 0) = true := by rw [bne_iff_ne]; exact hE
            have e2 : (E == 0) = false := by rw [beq_eq_false_iff_ne]; exact hE
            obtain rfl : p = 0 := by have := HS2.out.1; rw [hL] at this; exact this.symm
            clear hL
            go_wp2_with fail
            go_meet
            exact ⟨rfl, Below.refl _ _⟩
        case rest =>
          obtain ⟨rfl, hbc⟩ := hcut
          have HK3 := Lib.hid (HK2.out.on hbc)
          have HB3 := Lib.hid (below_step HB2.out hbc)
          clear HRS HL0 HS2 HK2 HA2 HB2 hbc
          by_cases m1 : m < 1
          · have m1' : ¬ 60 < m := by omega
            obtain ⟨hF, hK⟩ := HE1.out m1
            subst hF
            obtain rfl : p2 = 0 := by have := HK3.out.1; rw [hK] at this; exact this.symm
            clear HE1 HE9 HE0 HEM hK
            go_wp2_with fail
            refine (awake_any _).mono ?_
            rintro _ w5 ⟨rfl, b5⟩
            have HB5 := Lib.hid (below_step HB3.out b5)
            clear b5
            go_wp2_with fail
            go_ret
            exact ⟨rfl, HB5.out⟩
          by_cases m60 : 60 < m
          · have m60' : ¬ m ≤ 60 := by omega
            obtain ⟨hF, hK⟩ := HE9.out m60
            subst hF
            obtain rfl : p2 = 0 := by have := HK3.out.1; rw [hK] at this; exact this.symm
            clear HE1 HE9 HE0 HEM hK
            go_wp2_with fail
            refine (awake_any _).mono ?_
            rintro _ w5 ⟨rfl, b5⟩
            have HB5 := Lib.hid (below_step HB3.out b5)
            clear b5
            go_wp2_with fail
            go_ret
            exact ⟨rfl, HB5.out⟩
          have m60' : m ≤ 60 := by omega
          by_cases hT0 : T < 0
          ·
            obtain ⟨hF, hK⟩ := HE0.out (by omega) m60' hT0
            subst hF
            obtain rfl : p2 = 0 := by have := HK3.out.1; rw [hK] at this; exact this.symm
            clear HE1 HE9 HE0 HEM hK
            go_wp2_with fail
            refine (awake_any _).mono ?_
            rintro _ w5 ⟨rfl, b5⟩
            have HB5 := Lib.hid (below_step HB3.out b5)
            clear b5
            go_wp2_with fail
            go_ret
            exact ⟨rfl, HB5.out⟩
          obtain ⟨t, ht⟩ : ∃ t : Nat, m = (t : Int) := ⟨m.toNat, by omega⟩
          obtain ⟨hF, hR⟩ := HEM.out t ht (by omega) (by omega) (by omega)
          have HR := Lib.hid hR
          have ht1 : 1 ≤ t := by omega
          have ht2 : t ≤ 60 := by omega
          subst hF ht
          clear HE1 HE9 HE0 HEM hR
          go_wp2_with fail
          have hsz := HB3.out.size
          go_loopw [17, 122] (fun p i wr => ∃ (k : Nat), k ≤ t ∧ i = .int .i64 k ∧ Hid (wr.ownsRow wc.heap.size 3 1 p k (cellsOfInts (List.replicate k 1))) ∧ Hid (Below wc.heap.size wc wr)) (fun _ i _ => t - (intOf i).toNat)
          case atStart => exact ⟨0, Nat.zero_le _, rfl, (show Hid _ from World.ownsRow_nil _ _ _ _), (show Hid _ from Below.refl _ _)⟩
          case round =>
            obtain ⟨j, hj, rfl, HO, HB⟩ := hrel
            have hbs := HB.out.size
            by_cases hlt : j < t
            · have i1 : (0 : Int) ≤ (j : Int) := by omega
              have i2 : (j : Int) < (t : Int) := by omega
              go_wp2_with (at_builtin; refine append_one rfl _ _ rfl wc.heap.size _ j _ 1 (by rfl) HO.out (by rfl) (by omega) hbs ?_)
              intro v' w3 hown' hb3
              rw [← List.replicate_succ'] at hown'
              have HO4 := Lib.hid hown'
              have HB4 := Lib.hid (HB.out.trans hb3)
              clear hown' hb3
              go_wp2_with fail
              go_roundw
              case rel => exact ⟨j + 1, by omega, by congr 1, HO4, HB4⟩
              case measure => simp [intOf]; omega
            · obtain rfl : j = t := by omega
              obtain ⟨P, pc, rfl, p1, p2', p3, p4⟩ := sl_of_own HO.out (fun i hi => by rw [PSplit.rep_get (by simpa using hi)]; omega) (by omega)
              have HP := Lib.hid p4
              have HK5 := Lib.hid (HK3.out.on HB.out)
              have HB5 := Lib.hid (below_step HB3.out HB.out)
              clear p1 p2' p3 p4 HO HB HK3 HB3 hbs hsz
              go_wp2_with fail
              refine (HR.out _ _ _ HP.out).mono ?_
              rintro _ w6 ⟨C, q, d, rfl, -, -, S6, b6⟩
              have HC6 := Lib.hid S6
              have HK6 := Lib.hid (HK5.out.on b6)
              have HB6 := Lib.hid (below_step HB5.out b6)
              clear S6 b6 HK5 HB5 HP
              go_wp2_with fail
              refine (same_any B2 C p2 q c2 d _ _ _ HK6.out HC6.out).mono ?_
              rintro _ w7 ⟨rfl, b7⟩
              rw [decide_eq_true (rfl : K = K)]
              have HB7 := Lib.hid (below_step HB6.out b7)
              clear b7
              go_wp2_with fail
              refine (awake_any _).mono ?_
              rintro _ w8 ⟨rfl, b8⟩
              have HB8 := Lib.hid (below_step HB7.out b8)
              clear b8
              go_wp2_with fail
              go_ret
              exact ⟨rfl, HB8.out⟩

theorem sexact_walk (T : Int) (A : Option Addr) (n cap : Nat) (ws : List Int) (m : Int) (w : World) (h0 : (Lit.int .i64 T).wf = true) (hA : Sl w A n ws) (_ : (Lit.int .i64 m).wf = true) :
    Calls Try.prog 3 #[.int .i64 T, .slice A n cap, .int .i64 m] w fun e w' => e = .returned (.bool true) ∧ Below w.heap.size w w' := by
  have hT := (i64_bounds h0).2
  by_cases h100 : 100 < n
  · have a1 : (100 : Int) < (n : Int) := by omega
    clear hA
    go_enter Try.func3, Try.ntmps3
    go_wp2_with fail
    refine (awake_any _).mono ?_
    rintro _ w1 ⟨rfl, b1⟩
    go_wp2_with fail
    go_ret
    exact ⟨rfl, b1⟩
  · exact exact_in T m A n cap ws w hA hT h100
end Go.Proofs.Ytijjagnlfhiogaa
