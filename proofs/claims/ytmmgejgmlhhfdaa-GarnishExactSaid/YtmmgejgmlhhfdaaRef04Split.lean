/-
  What the reference's Split of layer 4 answers: the parts.
-/
import Derived.Test.YtmmgejgmlhhfdaaRef04Math
import Derived.Test.YtmmgejgmlhhfdaaRowKit
import Derived.Test.YtmmgejgmlhhfdaaRef04Sum
namespace Go.Proofs.Ytmmgejgmlhhfdaa
open Go.RowKit

set_option maxHeartbeats 6400000 in
set_option maxRecDepth 100000 in
theorem refsplit_any (T S n : Nat) (W : Nat → Nat) (A : Option Addr) (cap : Nat) (ws : List Int) (w : World) (hA : Sl w A n ws) (hW : ∀ i, i < n → ws.getD i 0 = ((W i : Nat) : Int)) (hn : n ≤ 60) (hsum : sumFrom 0 ws = some (S : Int))
    (hS : PSplit.sumN W n = S) (h0 : 0 < S) (hT : T ≤ 9223372036854775807) (hS1 : S ≤ 9223372036854775807) :
    Calls Try.prog 21 #[.int .i64 T, .slice A n cap] w (SlR (PSplit.pL T S W n n) w) := by
  have HA := Lib.hid hA; have HW := Lib.hid hW; have HS := Lib.hid hS
  have HR := Lib.hid (refSumV_some hsum)
  have HQ : Hid (∀ k, k < n → PSplit.q T S W k ≤ 9223372036854775807) := Lib.hid (fun k hk => Nat.le_trans (PSplit.q_le_all hS h0 hk) hT)
  have HQS : Hid (∀ k, k ≤ n → PSplit.sumN (PSplit.q T S W) k ≤ T) := Lib.hid (fun k hk => Nat.le_trans (PSplit.sumN_upto _ hk) (PSplit.q_le hS h0))
  have HP : Hid (∀ k, k < n → PSplit.part T S W n k ≤ 9223372036854775807) := Lib.hid (fun k hk => Nat.le_trans (PSplit.part_le hS h0 hk) hT)
  obtain ⟨b, off, rfl, hc⟩ : ∃ b off, A = some ⟨b, off, none⟩ ∧ ∀ i, i < n → w.cell? ⟨b, off + i, none⟩ = some (.int .i64 (ws.getD i 0)) := by
    rcases hA.2.2.2 with h | h
    · exfalso; subst h; simp only [PSplit.sumN] at hS; omega
    · exact h
  have HC : Hid (∀ i, i < n → w.cell? ⟨b, off + i, none⟩ = some (.int .i64 ((W i : Nat) : Int))) := Lib.hid (fun i hi => by rw [← hW i hi]; exact hc i hi)
  have HWS : Hid (∀ i, i < n → W i ≤ 9223372036854775807) := Lib.hid (fun i hi => by have := PSplit.le_sumN (f := W) hi; omega)
  clear hA hW hS hsum hc
  go_enter Try.func21, Try.ntmps21
  go_wp2_with fail
  refine (refsum_any _ n cap ws _ HA.out).mono ?_
  rintro _ _ ⟨rfl, rfl⟩
  rw [HR.out]
  go_wp2_with fail
  go_loopw [7, 8, 9] (fun p l i wr => ∃ (k : Nat) (x : Int), k ≤ n ∧ i = .int .i64 k ∧ l = .int .i64 x ∧ x = (T : Int) - ((PSplit.sumN (PSplit.q T S W) k : Nat) : Int) ∧ Hid (wr.ownsRow w.heap.size 3 1 p k (cellsOfInts (PSplit.qL T S W k))) ∧ Hid (Below w.heap.size w wr)) (fun _ _ i _ => n - (intOf i).toNat)
  case atStart => exact ⟨0, T, Nat.zero_le _, rfl, rfl, by simp [PSplit.sumN], (show Hid _ from World.ownsRow_nil _ _ _ _), (show Hid _ from Below.refl _ _)⟩
  case round =>
    obtain ⟨k, x, hk, rfl, rfl, hx, HO, HB⟩ := hrel
    have hxT : x ≤ T := by omega
    have hx0 : 0 ≤ x := by have := HQS.out k hk; omega
    have HX := Lib.hid hx; clear hx
    have hbs := HB.out.size
    by_cases hlt : k < n
    · have hcell := (HB.out.cell (World.block_lt_of_cell? w _ (HC.out k hlt))).trans (HC.out k hlt)
      have hwk := HWS.out k hlt
      have hqk := HQ.out k hlt
      obtain ⟨y, hy⟩ : ∃ y : Nat, PSplit.q T S W k = y := ⟨_, rfl⟩
      have hy1 : y ≤ 9223372036854775807 := by rw [← hy]; exact hqk
      have hyx : (y : Int) ≤ x := by have := HQS.out (k + 1) hlt; simp only [PSplit.sumN] at this; rw [HX.out]; omega
      have hd : T * W k / S = y := hy
      have HD := Lib.hid hd; have HY := Lib.hid hy; clear hqk hd hy
      obtain ⟨v, hv⟩ : ∃ v : Nat, W k = v := ⟨_, rfl⟩
      rw [hv] at hcell hwk HD
      have i1 : (0 : Int) ≤ (k : Int) := by omega
      have i2 : (k : Int) < (n : Int) := by omega
      have T' : (T : Int) ≤ 9223372036854775807 := by omega
      go_wp2_with fail
      refine (refdiv_down T v S _ hT hwk hS1 h0 (by rw [HD.out]; exact hy1)).mono ?_
      rintro _ w2 ⟨rfl, hb2⟩
      have HO2 := Lib.hid (own_below HO.out hb2)
      have HB2 := Lib.hid (below_step HB.out hb2)
      have hsz := HB2.out.size
      rw [HD.out]
      clear hb2
      go_wp2_with (at_builtin; refine append_one rfl _ _ rfl w.heap.size _ k _ ((y : Nat) : Int) (by rfl) HO2.out (by rfl) (by omega) hsz ?_)
      intro v' w3 hown' hb3
      rw [← HY.out, PSplit.qL_next] at hown'
      have HO3 := Lib.hid hown'
      have HB3 := Lib.hid (HB2.out.trans hb3)
      clear hown' hb3
      obtain ⟨z, hz⟩ : ∃ z : Int, z = x - (y : Int) := ⟨_, rfl⟩
      have z0 : 0 ≤ z := by omega
      have HZ : Hid (z = (T : Int) - ((PSplit.sumN (PSplit.q T S W) (k + 1) : Nat) : Int)) := Lib.hid (by have := HX.out; have := HY.out; simp only [PSplit.sumN]; omega)
      have HW2 : Hid (IntKind.i64.wrap (x - (y : Int)) = z ∧ x - (y : Int) = z) := Lib.hid ⟨by rw [IntKind.wrap_i64]; omega, hz.symm⟩
      clear hz
      go_wp2_with fail
      refine ⟨⟨k + 1, z, by omega, by congr 1, ?_, HZ.out, HO3, HB3⟩, by simp [intOf]; omega⟩
      first
      | exact congrArg _ HW2.out.2
      | exact congrArg _ HW2.out.1
    · obtain rfl : k = n := by omega
      obtain ⟨P, pc, rfl, p1, p2, p3, p4⟩ := sl_of_own HO.out (in64_nat HQ.out) (by omega)
      have HPS := Lib.hid p4
      have HLX : Hid (x = ((PSplit.left T S W k : Nat) : Int)) := Lib.hid (by have := HX.out; have := HQS.out k (Nat.le_refl _); unfold PSplit.left; omega)
      clear p1 p2 p3 p4
      go_wp2_with fail
      obtain ⟨w5, h5⟩ : ∃ w5, w5 = wr := ⟨_, rfl⟩
      subst h5
      go_loopw [12, 13] (fun o i wo => ∃ (m : Nat), m ≤ k ∧ i = .int .i64 m ∧ Hid (wo.ownsRow w5.heap.size 3 1 o m (cellsOfInts (PSplit.pL T S W k m))) ∧ Hid (Below w5.heap.size w5 wo)) (fun _ i _ => k - (intOf i).toNat)
      case atStart => exact ⟨0, Nat.zero_le _, rfl, (show Hid _ from World.ownsRow_nil _ _ _ _), (show Hid _ from Below.refl _ _)⟩
      case round =>
        obtain ⟨m, hm, rfl, HO2, HB2⟩ := hrel
        have hbs2 := HB2.out.size
        by_cases hlt : m < k
        · have i1 : (0 : Int) ≤ (m : Int) := by omega
          have i2 : (m : Int) < (k : Int) := by omega
          go_wp2_with fail
          obtain ⟨w6, h6⟩ : ∃ w6, w6 = wr := ⟨_, rfl⟩
          subst h6
          go_loopw [14, 15] (fun c i wi => ∃ (j t : Nat), j ≤ k ∧ t ≤ j ∧ i = .int .i64 j ∧ c = .int .i64 t ∧ Hid (PSplit.cnt (fun j => PSplit.before (PSplit.rem T S W) j m) j = t) ∧ Hid (Below w6.heap.size w6 wi)) (fun _ i _ => k - (intOf i).toNat)
          case atStart => exact ⟨0, 0, Nat.zero_le _, Nat.zero_le _, rfl, rfl, (show Hid _ from rfl), (show Hid _ from Below.refl _ _)⟩
          case round =>
            obtain ⟨j, t, hj, htj, rfl, rfl, HK, HB3⟩ := hrel
            have HB4 := Lib.hid (HB2.out.trans (HB3.out.mono hbs2))
            have HB5 := Lib.hid (HB.out.trans (HB4.out.mono hbs))
            have SW1 := Lib.hid (HA.out.on HB5.out)
            have SP1 := Lib.hid (HPS.out.on HB4.out)
            by_cases hltj : j < k
            · have j1 : (0 : Int) ≤ (j : Int) := by omega
              have j2 : (j : Int) < (k : Int) := by omega
              by_cases c1 : PSplit.rem T S W m < PSplit.rem T S W j
              · have HN : Hid (PSplit.cnt (fun j => PSplit.before (PSplit.rem T S W) j m) (j + 1) = t + 1) := Lib.hid (by rw [PSplit.cnt_succ, HK.out, if_pos (by simp [PSplit.before, c1])])
                have C1 := Lib.hid c1; clear c1
                go_wp2_with fail
                refine (above_rem T S k W _ P cap pc ws m j _ SW1.out SP1.out HW.out hlt hltj hT hS1).mono ?_
                rintro _ w7 ⟨rfl, hb7⟩
                rw [decide_eq_true C1.out]
                go_wp2_with fail
                exact ⟨⟨j + 1, t + 1, by omega, by omega, by congr 1, by congr 1, HN.out, (show Hid _ from below_step HB3.out hb7)⟩, by simp [intOf]; omega⟩
              · have C1 := Lib.hid c1; clear c1
                by_cases c2 : j < m
                · have c2' : (j : Int) < (m : Int) := by omega
                  by_cases c3 : PSplit.rem T S W j < PSplit.rem T S W m
                  · have HN : Hid (PSplit.cnt (fun j => PSplit.before (PSplit.rem T S W) j m) (j + 1) = t) := Lib.hid (by rw [PSplit.cnt_succ, HK.out, if_neg (by simp [PSplit.before, C1.out]; omega)]; rfl)
                    have C3 := Lib.hid c3; clear c3
                    go_wp2_with fail
                    refine (above_rem T S k W _ P cap pc ws m j _ SW1.out SP1.out HW.out hlt hltj hT hS1).mono ?_
                    rintro _ w7 ⟨rfl, hb7⟩
                    rw [decide_eq_false C1.out]
                    have SW2 := Lib.hid (SW1.out.on hb7)
                    have SP2 := Lib.hid (SP1.out.on hb7)
                    go_wp2_with fail
                    refine (above_rem T S k W _ P cap pc ws j m _ SW2.out SP2.out HW.out hltj hlt hT hS1).mono ?_
                    rintro _ w8 ⟨rfl, hb8⟩
                    rw [decide_eq_true C3.out]
                    go_wp2_with fail
                    exact ⟨⟨j + 1, t, by omega, by omega, by congr 1, by congr 1, HN.out, (show Hid _ from below_step (below_step HB3.out hb7) hb8)⟩, by simp [intOf]; omega⟩
                  · have HN : Hid (PSplit.cnt (fun j => PSplit.before (PSplit.rem T S W) j m) (j + 1) = t + 1) := Lib.hid (by rw [PSplit.cnt_succ, HK.out, if_pos (by simp [PSplit.before, c2]; omega)])
                    have C3 := Lib.hid c3; clear c3
                    go_wp2_with fail
                    refine (above_rem T S k W _ P cap pc ws m j _ SW1.out SP1.out HW.out hlt hltj hT hS1).mono ?_
                    rintro _ w7 ⟨rfl, hb7⟩
                    rw [decide_eq_false C1.out]
                    have SW2 := Lib.hid (SW1.out.on hb7)
                    have SP2 := Lib.hid (SP1.out.on hb7)
                    go_wp2_with fail
                    refine (above_rem T S k W _ P cap pc ws j m _ SW2.out SP2.out HW.out hltj hlt hT hS1).mono ?_
                    rintro _ w8 ⟨rfl, hb8⟩
                    rw [decide_eq_false C3.out]
                    go_wp2_with fail
                    exact ⟨⟨j + 1, t + 1, by omega, by omega, by congr 1, by congr 1, HN.out, (show Hid _ from below_step (below_step HB3.out hb7) hb8)⟩, by simp [intOf]; omega⟩
                · have c2' : ¬ (j : Int) < (m : Int) := by omega
                  have HN : Hid (PSplit.cnt (fun j => PSplit.before (PSplit.rem T S W) j m) (j + 1) = t) := Lib.hid (by rw [PSplit.cnt_succ, HK.out, if_neg (by simp [PSplit.before, C1.out, c2])]; rfl)
                  go_wp2_with fail
                  refine (above_rem T S k W _ P cap pc ws m j _ SW1.out SP1.out HW.out hlt hltj hT hS1).mono ?_
                  rintro _ w7 ⟨rfl, hb7⟩
                  rw [decide_eq_false C1.out]
                  go_wp2_with fail
                  exact ⟨⟨j + 1, t, by omega, by omega, by congr 1, by congr 1, HN.out, (show Hid _ from below_step HB3.out hb7)⟩, by simp [intOf]; omega⟩
            · obtain rfl : j = k := by omega
              clear HR
              have HRK : Hid (PSplit.rank (PSplit.rem T S W) j m = t) := HK
              obtain ⟨b2, o2, rfl, hcp⟩ : ∃ b off, P = some ⟨b, off, none⟩ ∧ ∀ i, i < j → wr.cell? ⟨b, off + i, none⟩ = some (.int .i64 ((PSplit.qL T S W j).getD i 0)) := by
                rcases SP1.out.2.2.2 with h | h
                · omega
                · exact h
              have g1 := hcp m hlt
              rw [PSplit.qL_get hlt] at g1
              clear hcp
              have hqm := HQ.out m hlt
              have hpm := HP.out m hlt
              obtain ⟨y, hy⟩ : ∃ y : Nat, PSplit.q T S W m = y := ⟨_, rfl⟩
              rw [hy] at g1 hqm
              have HO3 := Lib.hid (own_below HO2.out HB3.out)
              have hsz := HB4.out.size
              by_cases hlf : (t : Int) < x
              · have hpy : PSplit.part T S W j m = y + 1 := by unfold PSplit.part; rw [HRK.out, hy, if_pos (by have := HLX.out; omega)]
                have HPY : Hid (((PSplit.part T S W j m : Nat) : Int) = (y : Int) + 1) := Lib.hid (by rw [hpy]; omega)
                have y1 : (y : Int) + 1 ≤ 9223372036854775807 := by omega
                clear hpy hy hpm hqm
                go_wp2_with (at_builtin; refine append_one rfl _ _ rfl w5.heap.size _ m _ ((y : Int) + 1) (by rfl) HO3.out (by rfl) (by omega) hsz ?_)
                intro v' w8 hown' hb8
                rw [← HPY.out, PSplit.pL_next] at hown'
                have HO4 := Lib.hid hown'
                have HB8 := Lib.hid (HB4.out.trans hb8)
                clear hown' hb8
                go_wp2_with fail
                exact ⟨⟨m + 1, by omega, by congr 1, HO4, HB8⟩, by simp [intOf]; omega⟩
              · have hpy : PSplit.part T S W j m = y := by unfold PSplit.part; rw [HRK.out, hy, if_neg (by have := HLX.out; omega), Nat.add_zero]
                have HPY : Hid (((PSplit.part T S W j m : Nat) : Int) = (y : Int)) := Lib.hid (by rw [hpy])
                clear hpy hy hpm
                go_wp2_with (at_builtin; refine append_one rfl _ _ rfl w5.heap.size _ m _ (y : Int) (by rfl) HO3.out (by rfl) (by omega) hsz ?_)
                intro v' w8 hown' hb8
                rw [← HPY.out, PSplit.pL_next] at hown'
                have HO4 := Lib.hid hown'
                have HB8 := Lib.hid (HB4.out.trans hb8)
                clear hown' hb8
                go_wp2_with fail
                exact ⟨⟨m + 1, by omega, by congr 1, HO4, HB8⟩, by simp [intOf]; omega⟩
        · obtain rfl : m = k := by omega
          obtain ⟨B, bc, rfl, p1, p2, p3, p4⟩ := sl_of_own HO2.out (in64_nat HP.out) (by omega)
          have HF : Hid (SlR (PSplit.pL T S W m m) w (.returned (.slice B m bc)) wr) := Lib.hid ⟨B, m, bc, rfl, p1, p2, p4, HB.out.trans (HB2.out.mono hbs)⟩
          clear p1 p2 p3 p4
          go_wp2_with fail
          go_ret
          exact HF.out
end Go.Proofs.Ytmmgejgmlhhfdaa
