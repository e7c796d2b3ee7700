/-
  What brackets.Tax answers, over any table.
-/
import Derived.Test.YtpfpcnfodjmgcaaBrParts
import Derived.Test.YtpfpcnfodjmgcaaRateOf
import Derived.Test.YtpfpcnfodjmgcaaRoundMath
import Derived.Test.YtpfpcnfodjmgcaaMoneySum
namespace PBr
open PSplit Go.Proofs.Ytpfpcnfodjmgcaa
theorem sumFrom_tN {f : Nat → Nat} : ∀ {k : Nat}, sumN f k ≤ 9223372036854775807 → sumFrom 0 ((List.range k).map (fun i => ((f i : Nat) : Int))) = some ((sumN f k : Nat) : Int) := by
  intro k
  induction k with
  | zero => intro _; rfl
  | succ k ih =>
    intro h
    simp only [sumN] at h
    rw [List.range_succ, List.map_append, sumFrom_append, ih (by omega)]
    show sumFrom ((sumN f k : Nat) : Int) [((f k : Nat) : Int)] = _
    simp only [sumFrom]
    rw [if_pos (by unfold Adds; omega)]
    simp only [sumN]
    rw [Int.natCast_add]
theorem sum_bound {a r : Nat → Int} {n : Nat} {x : Int} (h : Rt a r n) (hx : x ≤ 9223372036854775807) {k : Nat} (hk : k ≤ n) : sumN (tN a r n x) k ≤ 9223372036854775807 := by
  by_cases h0 : 0 ≤ x
  · have := tax_to h h0 hk; omega
  · have : sumN (tN a r n x) k = 0 := sumN_zero (fun i hi => by unfold tN pN; rw [pt_low h (by omega) (by omega)]; simp)
    omega
theorem of_down {P R : Nat} (hR : R ≤ 10000) (hq : P * R / 10000 ≤ 9223372036854775807) : ofP P R 0 = (((P * R / 10000 : Nat) : Int), 0) := by
  unfold ofP
  rw [if_pos ⟨by omega, by omega⟩]
  have := md_nat P R 10000 0 (by omega) (by omega)
  rw [PDigs.rounded_down, if_neg (by omega)] at this
  exact this
end PBr
namespace Go.Proofs.Ytpfpcnfodjmgcaa
open Go.RowKit

theorem btax_no {A : Option Addr} {n cap : Nat} {a r : Nat → Int} {w : World} {bb : Bool} {x : Int} (hA : SlP w A n a r) (hb : bb = true ↔ PBr.Rt a r n) (h0 : -9223372036854775808 ≤ x) (he : PBr.errB bb x ≠ 0) :
    Calls Try.prog 21 #[.slice A n cap, .int .i64 x] w fun e w' => e = .returned (.tuple #[.int .i64 0, .int .i64 (PBr.errB bb x)]) ∧ Below w.heap.size w w' := by
  have HC := Lib.hid (bparts_no (cap := cap) hA hb h0 he)
  obtain ⟨E, hE⟩ : ∃ E, PBr.errB bb x = E := ⟨_, rfl⟩
  rw [hE] at HC he ⊢
  have e0 : (E != 0) = true := by rw [bne_iff_ne]; exact he
  clear hA hb hE
  go_enter Try.func21, Try.ntmps21
  go_wp2_with fail
  refine HC.out.mono ?_
  rintro _ w1 ⟨B, m, c, rfl, -, -, -, b1⟩
  go_wp2_with fail
  go_ret2
  exact ⟨rfl, b1⟩
set_option maxHeartbeats 3200000 in
set_option maxRecDepth 100000 in
theorem btax_yes {A : Option Addr} {n cap : Nat} {a r : Nat → Int} {w : World} {x : Int} (hA : SlP w A n a r) (hR : PBr.Rt a r n) (h0 : -9223372036854775807 ≤ x) (h1 : x ≤ 9223372036854775807) :
    Calls Try.prog 21 #[.slice A n cap, .int .i64 x] w fun e w' => e = .returned (.tuple #[.int .i64 ((PBr.tax a r n x : Nat) : Int), .int .i64 0]) ∧ Below w.heap.size w w' := by
  have HF := Lib.hid (bparts_yes (cap := cap) hA hR h0 h1)
  obtain ⟨b, off, rfl, hc⟩ := slp_cells hA hR.1.1
  have HR := Lib.hid hR; have HC := Lib.hid hc
  have hn := hR.1.2.1
  have hn0 := hR.1.1
  have hmk := make_row n (by omega)
  clear hc hA hR
  go_enter Try.func21, Try.ntmps21
  go_wp2_with fail
  refine HF.out.mono ?_
  rintro _ w1 ⟨P, m, c, rfl, -, -, hs, b1⟩
  obtain rfl : m = n := by have := hs.1; rw [PBr.ptL_len] at this; exact this.symm
  obtain ⟨pb, po, rfl, hpc⟩ : ∃ pb po, P = some ⟨pb, po, none⟩ ∧ ∀ i, i < m → w1.cell? ⟨pb, po + i, none⟩ = some (.int .i64 (PBr.pt a m i x)) := by
    rcases hs.2.2.2 with h | ⟨pb, po, h, hcell⟩
    · exfalso; subst h; have := hs.1; rw [PBr.ptL_len] at this; omega
    · exact ⟨pb, po, h, fun i hi => by rw [hcell i hi, PBr.ptL_get hi]⟩
  have B1 := Lib.hid b1
  have HP := Lib.hid hpc
  clear b1 HF hs hpc
  go_wp2_with fail
  go_loopw [27] (fun i wr => ∃ (k : Nat) (l : List Int), k ≤ m ∧ i = .int .i64 k ∧ Hid (∀ t, t < k → l.getD t 0 = ((PBr.tN a r m x t : Nat) : Int)) ∧ Hid (Rw wr w1.heap.size m l) ∧ Hid (Below w1.heap.size w1 wr)) (fun i _ => m - (intOf i).toNat)
  case atStart => exact ⟨0, _, Nat.zero_le _, rfl, (show Hid _ from fun t ht => by omega), (show Hid _ from Rw.of_row (made_row w1 _ m rfl (by omega)) List.length_replicate), (show Hid _ from (Below.refl _ _).alloc (Nat.le_refl _) _)⟩
  case round =>
    obtain ⟨k, l, hk, rfl, HL, HW, HB⟩ := hrel
    clear hmk
    have hHr : w1.heap.size < wr.heap.size := World.block_lt_of_cell? wr _ (HW.out.2 0 hn0).1
    have HB2 : Hid (Below w.heap.size w wr) := Lib.hid (below_step B1.out HB.out)
    by_cases hlt : k < m
    · have c1 := (HB.out.cell (World.block_lt_of_cell? w1 _ (HP.out k hlt))).trans (HP.out k hlt)
      have c2 := (HB2.out.cell (World.block_lt_of_cell? w _ (HC.out k hlt).2)).trans (HC.out k hlt).2
      have hr := (HR.out.2 k hlt).1
      have hp := PBr.pt_nonneg (i := k) (x := x) HR.out
      obtain ⟨R, hRr⟩ : ∃ R : Nat, r k = (R : Int) := ⟨(r k).toNat, by omega⟩
      obtain ⟨p, hP⟩ : ∃ P : Nat, PBr.pt a m k x = (P : Int) := ⟨(PBr.pt a m k x).toNat, by omega⟩
      rw [hP] at c1 hp; rw [hRr] at c2 hr
      have hq : ((PBr.tN a r m x k : Nat) : Int) = ((p * R / 10000 : Nat) : Int) := by
        unfold PBr.tN PBr.pN
        rw [hP, hRr, Int.toNat_natCast, Int.toNat_natCast]
      have hpm : p ≤ 9223372036854775807 := by
        have := (ptL_in64 HR.out h0 h1 k (by rw [PBr.ptL_len]; exact hlt)).2
        rw [PBr.ptL_get hlt, hP] at this; omega
      have hqm : p * R / 10000 ≤ 9223372036854775807 := by
        have : p * R ≤ p * 10000 := Nat.mul_le_mul_left _ (by omega)
        have h3 := Nat.div_le_div_right (c := 10000) this
        rw [Nat.mul_div_cancel _ (by omega)] at h3
        omega
      obtain ⟨q, hQ⟩ : ∃ q, p * R / 10000 = q := ⟨_, rfl⟩
      have HO : Hid (∀ w', Calls Try.prog 31 #[.int .i64 p, .int .i64 R, .int .i64 0] w' fun e w'' => e = .returned (.tuple #[.int .i64 q, .int .i64 0]) ∧ Below w'.heap.size w' w'') := Lib.hid (fun w' => by
        have := PBr.of_down (P := p) (R := R) (by omega) hqm
        rw [hQ] at this
        exact of_at this (by omega) (by omega) w')
      rw [hQ] at hq hqm
      have HQ := Lib.hid hq
      clear hP hRr hQ hq hr hp hpm
      have i1 : (0 : Int) ≤ (k : Int) := by omega
      have i2 : (k : Int) < (m : Int) := by omega
      go_wp2_with fail
      refine (HO.out _).mono ?_
      rintro _ w5 ⟨rfl, b5⟩
      have HW5 := Lib.hid (HW.out.on b5)
      have HB5 : Hid (Below w1.heap.size w1 w5) := Lib.hid (HB.out.trans (b5.mono HB.out.size))
      have hH5 : w1.heap.size < w5.heap.size := World.block_lt_of_cell? w5 _ (HW5.out.2 0 hn0).1
      have c4 := (HW5.out.2 k hlt).1
      have c5 := (HW5.out.2 k hlt).2
      have HL3 : Hid (∀ t, t < k + 1 → (l.set k (q : Int)).getD t 0 = ((PBr.tN a r m x t : Nat) : Int)) := Lib.hid (fun t ht => by
        rw [set_get HW.out.1 hlt]
        by_cases e : t = k
        · subst e; rw [if_pos rfl, HQ.out]
        · rw [if_neg e, HL.out t (by omega)])
      have HW6 := Lib.hid (HW5.out.set hlt (q : Int))
      clear b5
      go_wp2_with fail
      exact ⟨⟨k + 1, l.set k (q : Int), by omega, by congr 1, HL3, HW6, Lib.hid (HB5.out.setCell (Nat.le_refl _) _)⟩, by simp [intOf]; omega⟩
    · obtain rfl : k = m := by omega
      have hsm : sumFrom 0 ((List.range k).map (fun i => ((PBr.tN a r k x i : Nat) : Int))) = some ((PBr.tax a r k x : Nat) : Int) := PBr.sumFrom_tN (PBr.sum_bound HR.out h1 (Nat.le_refl k))
      have HS := Lib.hid (sumV_some hsm)
      have HSl : Hid (Sl wr (some ⟨w1.heap.size, 0, none⟩) k ((List.range k).map (fun i => ((PBr.tN a r k x i : Nat) : Int)))) := Lib.hid (by
        refine Rw.sl HW.out (by simp) (fun t ht => ?_) (in64_nat (fun i hi => ?_)) (by omega)
        · rw [HL.out t ht]; simp [List.getD, ht]
        · exact Nat.le_trans (PSplit.le_sumN (f := PBr.tN a r k x) hi) (PBr.sum_bound HR.out h1 (Nat.le_refl k)))
      clear hsm
      go_wp2_with fail
      refine (sum_any _ k k _ _ HSl.out).mono ?_
      rintro _ _ ⟨rfl, rfl⟩
      rw [HS.out]
      go_wp2_with fail
      go_ret2
      exact ⟨rfl, HB2.out⟩
theorem btax_any {A : Option Addr} {n cap : Nat} {a r : Nat → Int} {w : World} {bb : Bool} {x : Int} (hA : SlP w A n a r) (hb : bb = true ↔ PBr.Rt a r n) (h0 : -9223372036854775808 ≤ x) (h1 : x ≤ 9223372036854775807) :
    Calls Try.prog 21 #[.slice A n cap, .int .i64 x] w fun e w' => e = .returned (.tuple #[.int .i64 (if PBr.errB bb x = 0 then ((PBr.tax a r n x : Nat) : Int) else 0), .int .i64 (PBr.errB bb x)]) ∧ Below w.heap.size w w' := by
  by_cases he : PBr.errB bb x = 0
  · rw [if_pos he, he]
    obtain ⟨hbb, hx⟩ := errB_zero he
    exact btax_yes hA (hb.1 hbb) (by omega) h1
  · rw [if_neg he]; exact btax_no hA hb h0 he
end Go.Proofs.Ytpfpcnfodjmgcaa
