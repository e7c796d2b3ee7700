/-
  SplitWhole: parts are total together; of a weight of 0 there is none; of a greater weight a part is not less.
-/
import Derived.Test.YtijjagnlfhiogaaLaw04Awake
namespace PSplit
theorem partsOf_len (T : Int) (ws : List Int) : (partsOf T ws).length = ws.length := by unfold partsOf; rw [pL_len]
/-- What is said of the parts where there is no error. -/
structure Good (T : Int) (ws : List Int) (W : Nat → Nat) (p : Nat → Nat) : Prop where
  hW : ∀ i, i < ws.length → ws.getD i 0 = ((W i : Nat) : Int)
  get : ∀ i, i < ws.length → (listOf T ws).getD i 0 = ((p i : Nat) : Int)
  len : (listOf T ws).length = ws.length
  zero : ∀ i, i < ws.length → W i = 0 → p i = 0
  mono : ∀ i j, i < ws.length → W j < W i → p j ≤ p i
  sum : ((sumN p ws.length : Nat) : Int) = T
theorem good {T : Int} {ws : List Int} (h : errOf T ws = 0) : ∃ W p, Good T ws W p := by
  obtain ⟨e1, e2, e3, e4, e5, e6⟩ := errOf_zero h
  have hl : listOf T ws = partsOf T ws := by unfold listOf; rw [if_pos h]
  refine ⟨wOf ws, part T.toNat (sumN (wOf ws) ws.length) (wOf ws) ws.length, ?_, ?_, ?_, ?_, ?_, ?_⟩
  · intro i hi; have := e3 i hi; unfold wOf; omega
  · intro i hi; rw [hl]; exact pL_get hi
  · rw [hl, partsOf_len]
  · intro i _ hw; exact part_zero rfl e5 hw
  · intro i j hi hw; exact part_mono hi hw
  · rw [parts_whole rfl e5]; omega
end PSplit
namespace Go.Proofs.Ytijjagnlfhiogaa
open Go.RowKit

theorem Below.drewN {B : Nat} {a w : World} (h : Below B a w) (n : Nat) : Below B a (w.drewN n) := ⟨h.os, h.tape, h.output, h.size, h.block⟩
set_option maxHeartbeats 3200000 in
set_option maxRecDepth 100000 in
theorem whole_walk (T : Int) (A : Option Addr) (n cap : Nat) (ws : List Int) (w : World) (hA : Sl w A n ws) (hT : T ≤ 9223372036854775807) :
    Calls Try.prog 4 #[.int .i64 T, .slice A n cap] w fun e w' => e = .returned (.bool true) ∧ Below w.heap.size w w' := by
  have hnm := hA.2.2.1
  by_cases h60 : 60 < n
  · clear hA
    have a1 : (60 : Int) < (n : Int) := by omega
    go_enter Try.func4, Try.ntmps4
    go_wp2_with fail
    refine (awake_any _).mono ?_
    rintro _ w1 ⟨rfl, b1⟩
    go_wp2_with fail
    go_ret
    exact ⟨rfl, b1⟩
  · have a1 : ¬ (60 : Int) < (n : Int) := by omega
    have HS := Lib.hid (split_any T A n cap ws w hA hT)
    have HA := Lib.hid hA
    by_cases he : PSplit.errOf T ws = 0
    · obtain ⟨W, p, hg⟩ := PSplit.good he
      have HG := Lib.hid hg
      rw [he] at HS
      obtain ⟨L, hL⟩ : ∃ L, L = PSplit.listOf T ws := ⟨_, rfl⟩
      rw [← hL] at HS
      have HL := Lib.hid hL
      have HN := Lib.hid hA.1
      clear he hg hL hA h60
      go_enter Try.func4, Try.ntmps4
      go_wp2_with fail
      refine HS.out.mono ?_
      rintro _ w1 ⟨B, m, c, rfl, -, -, S1, b1⟩
      have HS1 := Lib.hid S1
      obtain rfl : m = n := by have := S1.1; have h2 := HG.out.len; rw [← HL.out, HN.out] at h2; omega
      have HA1 := Lib.hid (HA.out.on b1)
      have HB1 := Lib.hid b1
      clear HS S1 b1
      go_wp2_with fail
      have hbT : Hid (∀ k, k ≤ m → ((PSplit.sumN p k : Nat) : Int) ≤ T) := Lib.hid (fun k hk => by
        have h1 := HG.out.sum
        have h2 := PSplit.sumN_upto p (show k ≤ ws.length by rw [HN.out]; exact hk)
        omega)
      go_loopw [7, 36] (fun s i wr => ∃ (k q0 : Nat), k ≤ m ∧ i = .int .i64 k ∧ s = .int .i64 (PSplit.sumN p k : Nat) ∧ wr = w1.drewN q0) (fun _ i _ => m - (intOf i).toNat)
      case atStart => exact ⟨0, 0, Nat.zero_le _, rfl, rfl, rfl⟩
      case round =>
        obtain ⟨k, q0, hk, rfl, rfl, rfl⟩ := hrel
        by_cases hlt : k < m
        · obtain ⟨b1, o1, rfl, hc1⟩ : ∃ b off, B = some ⟨b, off, none⟩ ∧ ∀ i, i < m → w1.cell? ⟨b, off + i, none⟩ = some (.int .i64 (L.getD i 0)) := by
            rcases HS1.out.2.2.2 with h | h
            · omega
            · exact h
          obtain ⟨b2, o2, rfl, hc2⟩ : ∃ b off, A = some ⟨b, off, none⟩ ∧ ∀ i, i < m → w1.cell? ⟨b, off + i, none⟩ = some (.int .i64 (ws.getD i 0)) := by
            rcases HA1.out.2.2.2 with h | h
            · omega
            · exact h
          have C1 : Hid (∀ i, i < m → w1.cell? ⟨b1, o1 + i, none⟩ = some (.int .i64 ((p i : Nat) : Int))) := Lib.hid (fun i hi => by rw [hc1 i hi, HL.out, HG.out.get i (by rw [HN.out]; exact hi)])
          have C2 : Hid (∀ i, i < m → w1.cell? ⟨b2, o2 + i, none⟩ = some (.int .i64 ((W i : Nat) : Int))) := Lib.hid (fun i hi => by rw [hc2 i hi, HG.out.hW i (by rw [HN.out]; exact hi)])
          clear hc1 hc2
          have c1 := C1.out k hlt
          have c2 := C2.out k hlt
          have hs1 := hbT.out (k + 1) hlt
          have hz := HG.out.zero k (by rw [HN.out]; exact hlt)
          have HSN : Hid (PSplit.sumN p (k + 1) = PSplit.sumN p k + p k) := Lib.hid rfl
          rw [HSN.out] at hs1
          obtain ⟨y, hy⟩ : ∃ y, p k = y := ⟨_, rfl⟩
          obtain ⟨v, hv⟩ : ∃ y, W k = y := ⟨_, rfl⟩
          obtain ⟨S, hS⟩ : ∃ y, PSplit.sumN p k = y := ⟨_, rfl⟩
          have HY := Lib.hid hy; have HV := Lib.hid hv
          have HSN2 : Hid (PSplit.sumN p (k + 1) = S + y) := Lib.hid (by rw [HSN.out, hS, hy])
          rw [hy] at c1 hs1 hz; rw [hv] at c2 hz; rw [hS] at hs1 ⊢
          clear hy hv hS HSN
          have i1 : (0 : Int) ≤ (k : Int) := by omega
          have i2 : (k : Int) < (m : Int) := by omega
          have hs2 : (S : Int) + (y : Int) ≤ 9223372036854775807 := by omega
          have y0 : ¬ (y : Int) < 0 := by omega
          have hzb : ((v : Int) == 0) = true ∧ ((y : Int) != 0) = false ∨ ((v : Int) == 0) = false := by
            by_cases h : v = 0
            · exact .inl ⟨by rw [beq_iff_eq]; omega, by have := hz h; rw [bne_eq_false_iff_eq]; omega⟩
            · exact .inr (by rw [beq_eq_false_iff_ne]; omega)
          clear hz
          rcases hzb with ⟨z1, z2⟩ | z1
          all_goals
            go_wp2_with fail
            go_loopw [58] (fun i wz => ∃ (j q1 : Nat), j ≤ k ∧ i = .int .i64 j ∧ wz = w1.drewN q1) (fun i _ => k - (intOf i).toNat)
            case atStart => exact ⟨0, _, Nat.zero_le _, rfl, rfl⟩
            case round =>
              obtain ⟨j, q1, hj, rfl, rfl⟩ := hrel
              by_cases hjk : j < k
              · have d1 := C1.out j (by omega)
                have d2 := C2.out j (by omega)
                have m1 := HG.out.mono k j (by rw [HN.out]; exact hlt)
                have m2 := HG.out.mono j k (by rw [HN.out]; omega)
                rw [HY.out, HV.out] at m1 m2
                obtain ⟨q, hq⟩ : ∃ y, p j = y := ⟨_, rfl⟩
                obtain ⟨u, hu⟩ : ∃ y, W j = y := ⟨_, rfl⟩
                rw [hq] at d1 m1 m2; rw [hu] at d2 m1 m2
                clear hq hu
                have j1 : (0 : Int) ≤ (j : Int) := by omega
                have j2 : (j : Int) < (m : Int) := by omega
                have j3 : (j : Int) < (k : Int) := by omega
                rcases Nat.lt_trichotomy u v with h | h | h
                · have q1 : decide (y < q) = false := decide_eq_false (by have := m1 h; omega)
                  have q2 : decide (u < v) = true := decide_eq_true h
                  have q3 : decide (v < u) = false := decide_eq_false (by omega)
                  clear m1 m2 h
                  go_wp2_with fail
                  go_quiet (fail)
                  go_wp2_with fail
                  go_roundw
                  case rel => exact ⟨j + 1, _, by omega, by congr 1, rfl⟩
                  case measure => simp [intOf]; omega
                · have q2 : decide (u < v) = false := decide_eq_false (by omega)
                  have q3 : decide (v < u) = false := decide_eq_false (by omega)
                  clear m1 m2 h
                  go_wp2_with fail
                  go_quiet (fail)
                  go_wp2_with fail
                  go_roundw
                  case rel => exact ⟨j + 1, _, by omega, by congr 1, rfl⟩
                  case measure => simp [intOf]; omega
                · have q1 : decide (q < y) = false := decide_eq_false (by have := m2 h; omega)
                  have q2 : decide (v < u) = true := decide_eq_true h
                  have q3 : decide (u < v) = false := decide_eq_false (by omega)
                  clear m1 m2 h
                  go_wp2_with fail
                  go_quiet (fail)
                  go_wp2_with fail
                  go_roundw
                  case rel => exact ⟨j + 1, _, by omega, by congr 1, rfl⟩
                  case measure => simp [intOf]; omega
              · obtain rfl : j = k := by omega
                go_wp2_with fail
                go_roundw
                case rel => exact ⟨j + 1, _, by omega, by congr 1, by rw [HSN2.out]; congr 1, rfl⟩
                case measure => simp [intOf]; omega
        · obtain rfl : k = m := by omega
          have hfin := HG.out.sum
          rw [HN.out] at hfin
          have hb : (((PSplit.sumN p k : Nat) : Int) == T) = true := by rw [beq_iff_eq]; exact hfin
          clear hfin
          generalize PSplit.sumN p k = S at *
          go_wp2_with fail
          refine (awake_any _).mono ?_
          rintro _ w2 ⟨rfl, b2⟩
          have HB2 := Lib.hid (below_step (Below.drewN HB1.out q0) b2)
          clear b2
          go_wp2_with fail
          go_ret
          exact ⟨rfl, HB2.out⟩
    · have hl : PSplit.listOf T ws = [] := by unfold PSplit.listOf; rw [if_neg he]
      rw [hl] at HS
      obtain ⟨E, hE⟩ : ∃ E, E = PSplit.errOf T ws := ⟨_, rfl⟩
      rw [← hE] at HS he
      have e0 : (E != 0) = true := by rw [bne_iff_ne]; exact he
      clear hE hl he hA h60
      go_enter Try.func4, Try.ntmps4
      go_wp2_with fail
      refine HS.out.mono ?_
      rintro _ w1 ⟨B, m, c, rfl, -, -, S1, b1⟩
      obtain rfl : m = 0 := by have := S1.1; simp at this; omega
      clear S1
      go_wp2_with fail
      refine (awake_any _).mono ?_
      rintro _ w2 ⟨rfl, b2⟩
      have HB2 := Lib.hid (below_step b1 b2)
      clear b2 b1
      go_wp2_with fail
      go_ret
      exact ⟨rfl, HB2.out⟩
theorem swhole_walk (T : Int) (A : Option Addr) (n cap : Nat) (ws : List Int) (w : World) (h0 : (Lit.int .i64 T).wf = true) (hA : Sl w A n ws) :
    Calls Try.prog 4 #[.int .i64 T, .slice A n cap] w fun e w' => e = .returned (.bool true) ∧ Below w.heap.size w w' := whole_walk T A n cap ws w hA (i64_bounds h0).2
end Go.Proofs.Ytijjagnlfhiogaa
