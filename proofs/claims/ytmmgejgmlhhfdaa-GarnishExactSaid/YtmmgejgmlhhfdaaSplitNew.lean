/-
  What split.Split answers, its list in a block that is new.
-/
import Derived.Test.YtmmgejgmlhhfdaaSplit

namespace Go.Proofs.Ytmmgejgmlhhfdaa
open Go.RowKit

/-- A call that answers a slice, in a block that is new, and an error. -/
def SplN (l : List Int) (err : Int) (w : World) (e : Ending) (w' : World) : Prop := ∃ B m c, e = .returned (.tuple #[.slice B m c, .int .i64 err]) ∧ (B = none → c = 0) ∧ m ≤ c ∧ Sl w' B m l ∧ Below w.heap.size w w' ∧ ∀ ad, B = some ad → w.heap.size ≤ ad.block


set_option maxHeartbeats 6400000 in
set_option maxRecDepth 100000 in
theorem split_new (T S n : Nat) (W : Nat → Nat) (A : Option Addr) (cap : Nat) (ws : List Int) (w : World) (hA : Sl w A (n + 1) ws) (hW : ∀ i, i < n + 1 → ws.getD i 0 = ((W i : Nat) : Int)) (hn : n + 1 ≤ 60) (hsum : sumFrom 0 ws = some (S : Int))
    (hS : PSplit.sumN W (n + 1) = S) (h0 : 0 < S) (hT : T ≤ 9223372036854775807) (hS1 : S ≤ 9223372036854775807) :
    Calls Try.prog 28 #[.int .i64 T, .slice A (n + 1 : Nat) cap] w (SplN (PSplit.pL T S W (n + 1) (n + 1)) 0 w) := by
  obtain ⟨N, hN⟩ : ∃ N, N = n + 1 := ⟨_, rfl⟩
  rw [← hN] at hA hW hn hS ⊢
  have hmk := make_row N (by omega)
  have HN := Lib.hid hN; clear hN
  have HA := Lib.hid hA; have HW := Lib.hid hW; have HS := Lib.hid hS
  have HR := Lib.hid (sumV_some hsum)
  have HQ : Hid (∀ k, k < N → PSplit.q T S W k ≤ 9223372036854775807) := Lib.hid (fun k hk => Nat.le_trans (PSplit.q_le_all hS h0 hk) hT)
  have HQS : Hid (∀ k, k ≤ N → PSplit.sumN (PSplit.q T S W) k ≤ T) := Lib.hid (fun k hk => Nat.le_trans (PSplit.sumN_upto _ hk) (PSplit.q_le hS h0))
  have HP : Hid (∀ k, k < N → PSplit.part T S W N k ≤ 9223372036854775807) := Lib.hid (fun k hk => Nat.le_trans (PSplit.part_le hS h0 hk) hT)
  obtain ⟨b, off, rfl, hc⟩ : ∃ b off, A = some ⟨b, off, none⟩ ∧ ∀ i, i < N → w.cell? ⟨b, off + i, none⟩ = some (.int .i64 (ws.getD i 0)) := by
    rcases hA.2.2.2 with h | h
    · exfalso; have := HN.out; omega
    · exact h
  have HC : Hid (∀ i, i < N → w.cell? ⟨b, off + i, none⟩ = some (.int .i64 ((W i : Nat) : Int))) := Lib.hid (fun i hi => by rw [← hW i hi]; exact hc i hi)
  have HWS : Hid (∀ i, i < N → W i ≤ 9223372036854775807) := Lib.hid (fun i hi => by have := PSplit.le_sumN (f := W) hi; omega)
  have hT0 : ¬ (T : Int) < 0 := by omega
  have hN60 : ¬ (60 : Int) < (N : Int) := by omega
  have hS0 : ((S : Int) == 0) = false := by rw [beq_eq_false_iff_ne]; omega
  clear hA hW hS hsum hc
  have HNEG : Hid (false = true ↔ ∃ i, i < N ∧ ws.getD i 0 < 0) := Lib.hid ⟨fun h => by (cases h), fun ⟨i, hi, h⟩ => by rw [HW.out i hi] at h; omega⟩
  go_enter Try.func28, Try.ntmps28
  go_wp2_with fail
  refine (contains_any _ N cap ws _ HA.out false HNEG.out).mono ?_
  rintro _ _ ⟨rfl, rfl⟩
  go_wp2_with fail
  refine (sum_any _ N cap ws _ HA.out).mono ?_
  rintro _ _ ⟨rfl, rfl⟩
  rw [HR.out]
  go_wp2_with fail
  obtain ⟨w2, hw2⟩ : ∃ w2, w2 = (w.alloc (.cells (madeCells #[.int .i64 0] N) 3)).alloc (.cells (madeCells #[.int .i64 0] N) 3) := ⟨_, rfl⟩
  rw [← hw2]
  have hs2 : w2.heap.size = w.heap.size + 1 + 1 := by rw [hw2]; simp
  have HB2 : Hid (Below w.heap.size w w2) := Lib.hid (by rw [hw2]; exact ((Below.refl _ _).alloc (Nat.le_refl _) _).alloc (by simp) _)
  have HR0 : Hid (Rw w2 w.heap.size N (List.replicate N 0)) := Lib.hid (by
    rw [hw2]
    exact (Rw.of_row (made_row w w.heap.size N rfl (by omega)) List.length_replicate).on ((Below.refl _ _).alloc (Nat.le_refl _) _))
  have HR1 : Hid (Rw w2 (w.heap.size + 1) N (List.replicate N 0)) := Lib.hid (by
    rw [hw2]
    exact Rw.of_row (made_row _ (w.heap.size + 1) N (by simp) (by omega)) List.length_replicate)
  clear hw2 hmk
  go_loopw [10, 45] (fun l i wr => ∃ (k : Nat) (x : Int) (pl rl : List Int), k ≤ N ∧ i = .int .i64 k ∧ l = .int .i64 x ∧ x = (T : Int) - ((PSplit.sumN (PSplit.q T S W) k : Nat) : Int) ∧ Hid (Rw wr w.heap.size N pl) ∧ Hid (Rw wr (w.heap.size + 1) N rl) ∧
      Hid (∀ t, t < k → pl.getD t 0 = ((PSplit.q T S W t : Nat) : Int)) ∧ Hid (∀ t, t < k → rl.getD t 0 = ((PSplit.rem T S W t : Nat) : Int)) ∧ Hid (Below w.heap.size w wr)) (fun _ i _ => N - (intOf i).toNat)
  case atStart => exact ⟨0, T, _, _, Nat.zero_le _, rfl, rfl, by simp [PSplit.sumN], HR0, HR1, (show Hid _ from fun t ht => by omega), (show Hid _ from fun t ht => by omega), HB2⟩
  case round =>
    obtain ⟨k, x, pl, rl, hk, rfl, rfl, hx, RP, RR, HPL, HRL, HB⟩ := hrel
    clear HR0 HR1 HB2 hs2
    have hxT : x ≤ T := by omega
    have hx0 : 0 ≤ x := by have := HQS.out k hk; omega
    have HX := Lib.hid hx; clear hx
    have hbs := HB.out.size
    by_cases hlt : k < N
    · have hcell := (HB.out.cell (World.block_lt_of_cell? w _ (HC.out k hlt))).trans (HC.out k hlt)
      have hwk := HWS.out k hlt
      have hqk := HQ.out k hlt
      obtain ⟨y, hy⟩ : ∃ y : Nat, PSplit.q T S W k = y := ⟨_, rfl⟩
      have hy1 : y ≤ 9223372036854775807 := by rw [← hy]; exact hqk
      have hyx : (y : Int) ≤ x := by have := HQS.out (k + 1) hlt; simp only [PSplit.sumN] at this; rw [HX.out]; omega
      have hd : T * W k / S = y := hy
      obtain ⟨g, hg⟩ : ∃ g : Nat, T * W k % S = g := ⟨_, rfl⟩
      have HD := Lib.hid hd; have HY := Lib.hid hy; have HG := Lib.hid hg
      have HYG : Hid (PSplit.rem T S W k = g) := Lib.hid hg
      clear hqk hd hy hg
      obtain ⟨v, hv⟩ : ∃ v : Nat, W k = v := ⟨_, rfl⟩
      rw [hv] at hcell hwk HD HG
      have i1 : (0 : Int) ≤ (k : Int) := by omega
      have i2 : (k : Int) < (N : Int) := by omega
      go_wp2_with fail
      refine (div_down T v S _ hT hwk h0 hS1 (by rw [HD.out]; exact hy1)).mono ?_
      rintro _ w3 ⟨rfl, hb3⟩
      have RP3 := Lib.hid (RP.out.on hb3)
      have RR3 := Lib.hid (RR.out.on hb3)
      have HB3 := Lib.hid (below_step HB.out hb3)
      rw [HD.out]
      have c1 := (RP3.out.2 k hlt).1
      have c2 := (RP3.out.2 k hlt).2
      have RP4 : Hid (Rw (w3.setCell ⟨w.heap.size, k, none⟩ (.int .i64 y)) w.heap.size N (pl.set k y)) := Lib.hid (RP3.out.set hlt _)
      have RR4 : Hid (Rw (w3.setCell ⟨w.heap.size, k, none⟩ (.int .i64 y)) (w.heap.size + 1) N rl) := Lib.hid (RR3.out.far (p := ⟨w.heap.size, k, none⟩) (by simp) _)
      have HB4 : Hid (Below w.heap.size w (w3.setCell ⟨w.heap.size, k, none⟩ (.int .i64 y))) := Lib.hid (HB3.out.setCell (Nat.le_refl _) _)
      clear hb3
      go_wp2_with fail
      have hrem := remainder_any T v S (w3.setCell ⟨w.heap.size, k, none⟩ (.int .i64 y)) h0 hS1
      rw [HD.out, HG.out] at hrem
      refine hrem.mono ?_
      rintro _ _ ⟨rfl, rfl⟩
      clear hrem c1 c2
      have c1 := (RR4.out.2 k hlt).1
      have c2 := (RR4.out.2 k hlt).2
      obtain ⟨w4, hw4⟩ : ∃ w4, w4 = w3.setCell ⟨w.heap.size, k, none⟩ (.int .i64 y) := ⟨_, rfl⟩
      rw [← hw4] at RP4 RR4 HB4 c1 c2 ⊢
      clear hw4
      have RP5 : Hid (Rw (w4.setCell ⟨w.heap.size + 1, k, none⟩ (.int .i64 g)) w.heap.size N (pl.set k y)) := Lib.hid (RP4.out.far (p := ⟨w.heap.size + 1, k, none⟩) (by simp) _)
      have RR5 : Hid (Rw (w4.setCell ⟨w.heap.size + 1, k, none⟩ (.int .i64 g)) (w.heap.size + 1) N (rl.set k g)) := Lib.hid (RR4.out.set hlt _)
      have HB5 : Hid (Below w.heap.size w (w4.setCell ⟨w.heap.size + 1, k, none⟩ (.int .i64 g))) := Lib.hid (HB4.out.setCell (p := ⟨w.heap.size + 1, k, none⟩) (by simp) _)
      have HPL2 : Hid (∀ t, t < k + 1 → (pl.set k ((y : Nat) : Int)).getD t 0 = ((PSplit.q T S W t : Nat) : Int)) := Lib.hid (fun t ht => by
        rw [set_get RP.out.1 hlt]
        by_cases e : t = k
        · subst e; rw [if_pos rfl, HY.out]
        · rw [if_neg e, HPL.out t (by omega)])
      have HRL2 : Hid (∀ t, t < k + 1 → (rl.set k ((g : Nat) : Int)).getD t 0 = ((PSplit.rem T S W t : Nat) : Int)) := Lib.hid (fun t ht => by
        rw [set_get RR.out.1 hlt]
        by_cases e : t = k
        · subst e; rw [if_pos rfl, HYG.out]
        · rw [if_neg e, HRL.out t (by omega)])
      obtain ⟨z, hz⟩ : ∃ z : Int, z = x - (y : Int) := ⟨_, rfl⟩
      have z0 : 0 ≤ z := by omega
      have HZ : Hid (z = (T : Int) - ((PSplit.sumN (PSplit.q T S W) (k + 1) : Nat) : Int)) := Lib.hid (by have := HX.out; have := HY.out; simp only [PSplit.sumN]; omega)
      have HW2 : Hid (x - (y : Int) = z) := Lib.hid hz.symm
      clear hz
      go_wp2_with fail
      go_roundw
      case rel => exact ⟨k + 1, z, _, _, by omega, by congr 1, congrArg _ HW2.out, HZ.out, RP5, RR5, HPL2, HRL2, HB5⟩
      case measure => simp [intOf]; omega
    · obtain rfl : k = N := by omega
      obtain ⟨L, hL⟩ : ∃ L, L = PSplit.left T S W k := ⟨_, rfl⟩
      have hxL : x = (L : Int) := by have := HX.out; have := HQS.out k (Nat.le_refl _); rw [hL]; unfold PSplit.left; omega
      have hLN : L ≤ k := by
        have h1 := PSplit.left_le (T := T) HS.out h0
        have h2 := PSplit.cnt_le (fun i => decide (0 < PSplit.rem T S W i)) k
        omega
      have HL := Lib.hid hL
      subst hxL
      clear hL hxT hx0 HX
      have hcr : ∀ i, i < n + 1 → wr.cell? ⟨w.heap.size + 1, 0 + i, none⟩ = some (.int .i64 ((PSplit.rem T S W i : Nat) : Int)) := by
        intro i hi
        have hi' : i < k := by have := HN.out; omega
        rw [Nat.zero_add, (RR.out.2 i hi').1, HRL.out i hi']
      have hgr := greatest_any n (w.heap.size + 1) 0 k (PSplit.rem T S W) wr (by have := HN.out; omega) hcr
      rw [← HN.out] at hgr
      have HGR := Lib.hid hgr
      clear hgr hcr
      go_wp2_with fail
      refine HGR.out.mono ?_
      rintro _ w3 ⟨pb, f, rfl, hpb, hf, hb3⟩
      have RP3 := Lib.hid (RP.out.on hb3)
      have HB3 := Lib.hid (below_step HB.out hb3)
      have HF := Lib.hid hf
      have hpb1 : w.heap.size < pb := by have := World.block_lt_of_cell? wr _ (RR.out.2 0 (by have := HN.out; omega)).1; simp only at this; omega
      clear hf hb3 hpb
      have i1 : (0 : Int) ≤ (L : Int) := by omega
      have i2 : (L : Int) ≤ (k : Int) := by omega
      go_wp2_with fail
      go_loopw [81] (fun i wz => ∃ (m : Nat) (ql : List Int), m ≤ L ∧ i = .int .i64 m ∧ Hid (Rw wz w.heap.size k ql) ∧ Hid (∀ t, t < k → ql.getD t 0 = ((PSplit.q T S W t + (if PSplit.rank (PSplit.rem T S W) k t < m then 1 else 0) : Nat) : Int)) ∧
          Hid (∀ t, t < k → wz.cell? ⟨pb, t, none⟩ = some (.int .i64 ((f t : Nat) : Int))) ∧ Hid (Below w.heap.size w wz)) (fun i _ => L - (intOf i).toNat)
      case atStart => exact ⟨0, pl, Nat.zero_le _, rfl, RP3, (show Hid _ from fun t ht => by rw [HPL.out t ht, if_neg (by omega), Nat.add_zero]), (show Hid _ from fun t ht => (HF.out t ht).2.2), HB3⟩
      case round =>
        obtain ⟨m, ql, hm, rfl, RQ, HQL, HPC, HB4⟩ := hrel
        by_cases hmL : m < L
        · have hmk' : m < k := by omega
          obtain ⟨p, hp⟩ : ∃ p, f m = p := ⟨_, rfl⟩
          have hpk : p < k := by rw [← hp]; exact (HF.out m hmk').1
          have hpr : PSplit.rank (PSplit.rem T S W) k p = m := by rw [← hp]; exact (HF.out m hmk').2.1
          have c1 := HPC.out m hmk'
          rw [hp] at c1
          have c2 := (RQ.out.2 p hpk).1
          have c3 := (RQ.out.2 p hpk).2
          have hqp := HQL.out p hpk
          rw [hpr, if_neg (Nat.lt_irrefl m), Nat.add_zero] at hqp
          obtain ⟨y, hy⟩ : ∃ y : Nat, PSplit.q T S W p = y := ⟨_, rfl⟩
          have hy1 : y + 1 ≤ 9223372036854775807 := by
            have := HP.out p hpk
            unfold PSplit.part at this
            rw [hpr, if_pos (by have := HL.out; omega), hy] at this
            exact this
          rw [hy] at hqp
          rw [hqp] at c2
          have HQL2 : Hid (∀ t, t < k → (ql.set p ((y : Int) + 1)).getD t 0 = ((PSplit.q T S W t + (if PSplit.rank (PSplit.rem T S W) k t < m + 1 then 1 else 0) : Nat) : Int)) := Lib.hid (fun t ht => by
            rw [set_get RQ.out.1 hpk]
            by_cases e : t = p
            · subst e; rw [if_pos rfl, hy, hpr, if_pos (by omega)]; omega
            · rw [if_neg e, HQL.out t ht]
              have hne : PSplit.rank (PSplit.rem T S W) k t ≠ m := fun h => e (PSplit.rank_inj ht hpk (h.trans hpr.symm))
              by_cases h1 : PSplit.rank (PSplit.rem T S W) k t < m
              · rw [if_pos h1, if_pos (by omega)]
              · rw [if_neg h1, if_neg (by omega)])
          have RQ2 : Hid (Rw (wr.setCell ⟨w.heap.size, p, none⟩ (.int .i64 ((y : Int) + 1))) w.heap.size k (ql.set p ((y : Int) + 1))) := Lib.hid (RQ.out.set hpk _)
          have HPC2 : Hid (∀ t, t < k → (wr.setCell ⟨w.heap.size, p, none⟩ (.int .i64 ((y : Int) + 1))).cell? ⟨pb, t, none⟩ = some (.int .i64 ((f t : Nat) : Int))) := Lib.hid (fun t ht => by
            rw [World.cell?_setCell_far _ _ _ _ (by simp only; omega)]; exact HPC.out t ht)
          have HB5 : Hid (Below w.heap.size w (wr.setCell ⟨w.heap.size, p, none⟩ (.int .i64 ((y : Int) + 1)))) := Lib.hid (HB4.out.setCell (Nat.le_refl _) _)
          have j1 : (0 : Int) ≤ (m : Int) := by omega
          have j2 : (m : Int) < (L : Int) := by omega
          have j3 : (0 : Int) ≤ (p : Int) := by omega
          have j4 : (p : Int) < (k : Int) := by omega
          have j5 : (y : Int) + 1 ≤ 9223372036854775807 := by omega
          clear hp hpr hqp hy
          go_wp2_with fail
          go_roundw
          case rel => exact ⟨m + 1, _, by omega, by congr 1, RQ2, HQL2, HPC2, HB5⟩
          case measure => simp [intOf]; omega
        · obtain rfl : m = L := by omega
          have HSL : Hid (SplN (PSplit.pL T S W k k) 0 w (.returned (.tuple #[.slice (some ⟨w.heap.size, 0, none⟩) k k, .int .i64 0])) wr) := Lib.hid
            ⟨_, k, k, rfl, (fun e => by cases e), Nat.le_refl _, RQ.out.sl (PSplit.pL_len _ _ _ _ _) (fun t ht => by rw [HQL.out t ht, PSplit.pL_get ht, HL.out]; rfl) (in64_nat HP.out) (by omega), HB4.out, fun ad e => by cases e; exact Nat.le_refl _⟩
          go_wp2_with fail
          go_ret2
          exact HSL.out
end Go.Proofs.Ytmmgejgmlhhfdaa
