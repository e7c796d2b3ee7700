/-
  What the reference's trim and size answer, over digits.
-/
import Derived.Test.YtmmgejgmlhhfdaaIntSlice
import Derived.Test.YtmmgejgmlhhfdaaDigsMath
import Derived.Deep.QuietTactic
import Derived.BigQuiet
namespace Go.Proofs.Ytmmgejgmlhhfdaa
open Go.RowKit

/-- What trim answers: the same slice, as many as the number's digits are. -/
def Trimmed (w : World) (a : Option Addr) (len cap : Nat) (l : List Int) (e : Ending) (w' : World) : Prop :=
  ∃ k, e = .returned (.slice a k cap) ∧ k ≤ len ∧ Sl w a k (PDigs.digs (PDigs.val l).toNat) ∧ w = w'

set_option maxHeartbeats 800000 in
theorem trim_any (a : Option Addr) (len cap : Nat) (l : List Int) (w : World) (h : Sl w a len l) (hd : PDigs.Dig l) (hc : len ≤ cap) (_ : cap ≤ 9223372036854775807) :
    Calls Try.prog 44 #[.slice a len cap] w (Trimmed w a len cap l) := by
  have HS := Lib.hid h
  have HD := Lib.hid hd; clear hd
  obtain ⟨h1, h2, h3, h4⟩ := h
  have L1 := Lib.hid h1; clear h1 h2
  rcases h4 with h4 | ⟨b, off, rfl, hcell⟩
  · have h5 : len ≤ 0 := by omega
    clear h4
    have HF : Hid (Trimmed w a len cap l (.returned (.slice a len cap)) w) := Lib.hid (by
      refine ⟨len, rfl, Nat.le_refl _, ?_, rfl⟩
      have hl : l = [] := List.eq_nil_of_length_eq_zero (by rw [L1.out]; omega)
      have := HS.out
      rw [hl] at this ⊢
      simpa [PDigs.val, PDigs.digs_zero] using this)
    go_enter Try.func44, Try.ntmps44
    go_wp2
    go_loop [0] (fun s => s = .slice a len cap) (fun _ => 0)
    case atStart => exact rfl
    case round =>
      obtain rfl := hrel
      go_wp2
      go_ret
      exact HF.out
  · have HC := Lib.hid hcell; clear hcell
    go_enter Try.func44, Try.ntmps44
    go_wp2
    go_loop [0] (fun s => ∃ k : Nat, k ≤ len ∧ s = .slice (some ⟨b, off, none⟩) k cap ∧ ∀ i, k ≤ i → i < len → l.getD i 0 = 0) (fun s => match s with | .slice _ k _ => k | _ => 0)
    case atStart => exact ⟨len, Nat.le_refl _, rfl, fun i _ _ => by omega⟩
    case round =>
      obtain ⟨k, hk, rfl, hz⟩ := hrel
      have HZ := Lib.hid hz; clear hz
      by_cases h0 : k = 0
      · subst h0
        have HF : Hid (Trimmed w (some ⟨b, off, none⟩) len cap l (.returned (.slice (some ⟨b, off, none⟩) 0 cap)) w) := Lib.hid (by
          refine ⟨0, rfl, by omega, ?_, rfl⟩
          rw [← PDigs.trim_digs HD.out (k := 0) (by omega) (fun i hi hl => HZ.out i hi (by rw [← L1.out]; exact hl)) (.inl rfl)]
          exact HS.out.take (by omega))
        go_wp2
        go_ret
        exact HF.out
      · obtain ⟨m, rfl⟩ : ∃ m, k = m + 1 := ⟨k - 1, by omega⟩
        have hcm := HC.out m (by omega)
        by_cases hm : l.getD m 0 = 0
        · rw [hm] at hcm
          have HY : Hid (∀ i, m ≤ i → i < len → l.getD i 0 = 0) := Lib.hid (fun i hi hl => by
            by_cases e : i = m
            · rw [e]; exact hm
            · exact HZ.out i (by omega) hl)
          clear hm
          go_wp2
          exact ⟨⟨m, by omega, rfl, HY.out⟩, Nat.lt_succ_self m⟩
        · have hb : (l.getD m 0 == 0) = false := by rw [beq_eq_false_iff_ne]; exact hm
          have HF : Hid (Trimmed w (some ⟨b, off, none⟩) len cap l (.returned (.slice (some ⟨b, off, none⟩) (m + 1) cap)) w) := Lib.hid (by
            refine ⟨m + 1, rfl, by omega, ?_, rfl⟩
            rw [← PDigs.trim_digs HD.out (k := m + 1) (by rw [L1.out]; omega) (fun i hi hl => HZ.out i hi (by rw [← L1.out]; exact hl)) (.inr (by simpa using hm))]
            exact HS.out.take (by omega))
          generalize l.getD m 0 = x at *
          clear hm
          go_wp2
          go_ret
          exact HF.out

theorem drop_step {a b : List Int} {m : Nat} (hl : a.length = b.length) (hm : m < a.length) (hs : a.drop (m + 1) = b.drop (m + 1)) (he : a.getD m 0 = b.getD m 0) : a.drop m = b.drop m := by
  rw [List.drop_eq_getElem_cons hm, List.drop_eq_getElem_cons (show m < b.length by omega), hs]
  congr 1
  simpa [List.getD, hm, show m < b.length by omega] using he
theorem below_drewN {B : Nat} {a w : World} (h : Below B a w) (n : Nat) : Below B a (w.drewN n) := ⟨h.os, h.tape, h.output, h.size, h.block⟩

set_option maxHeartbeats 1600000 in
theorem size_same (a b : Option Addr) (len ca cb : Nat) (x y : Nat) (w : World) (ha : Sl w a len (PDigs.digs x)) (hb : Sl w b len (PDigs.digs y)) :
    Calls Try.prog 45 #[.slice a len ca, .slice b len cb] w fun e w' => e = .returned (.int .i64 (PDigs.cmp x y)) ∧ Below w.heap.size w w' := by
  have HA := Lib.hid ha
  have HB := Lib.hid hb
  have hlen : len ≤ 9223372036854775807 := ha.2.2.1
  clear ha hb
  go_enter Try.func45, Try.ntmps45
  go_wp2_with fail
  go_loopw [5] (fun s wr => ∃ k : Nat, k ≤ len ∧ s = .int .i64 ((k : Int) - 1) ∧ (PDigs.digs x).drop k = (PDigs.digs y).drop k ∧ Below w.heap.size w wr) (fun s _ => (intOf s + 1).toNat)
  case atStart => exact ⟨len, Nat.le_refl _, rfl, by rw [List.drop_of_length_le (Nat.le_of_eq HA.out.1), List.drop_of_length_le (Nat.le_of_eq HB.out.1)], Below.refl _ _⟩
  case round =>
    obtain ⟨k, hk, rfl, hdr, hbl⟩ := hrel
    have HR := Lib.hid hdr; clear hdr
    by_cases h0 : k = 0
    · subst h0
      have HF : Hid (PDigs.cmp x y = 0) := Lib.hid (PDigs.cmp_eq (by
        have := HR.out
        rw [List.drop_zero, List.drop_zero] at this
        have h2 := congrArg PDigs.val this
        rw [PDigs.val_digs, PDigs.val_digs] at h2
        omega))
      go_wp2_with fail
      go_ret
      exact ⟨by rw [HF.out]; rfl, hbl⟩
    · obtain ⟨m, rfl⟩ : ∃ m, k = m + 1 := ⟨k - 1, by omega⟩
      obtain ⟨b1, o1, rfl, hc1⟩ : ∃ b off, a = some ⟨b, off, none⟩ ∧ ∀ i, i < len → w.cell? ⟨b, off + i, none⟩ = some (.int .i64 ((PDigs.digs x).getD i 0)) := by
        rcases HA.out.2.2.2 with h | h
        · omega
        · exact h
      obtain ⟨b2, o2, rfl, hc2⟩ : ∃ b' off, b = some ⟨b', off, none⟩ ∧ ∀ i, i < len → w.cell? ⟨b', off + i, none⟩ = some (.int .i64 ((PDigs.digs y).getD i 0)) := by
        rcases HB.out.2.2.2 with h | h
        · omega
        · exact h
      have g1 := (hbl.cell (World.block_lt_of_cell? w _ (hc1 m (by omega)))).trans (hc1 m (by omega))
      have g2 := (hbl.cell (World.block_lt_of_cell? w _ (hc2 m (by omega)))).trans (hc2 m (by omega))
      clear hc1 hc2
      have hlt : Hid ((PDigs.digs x).getD m 0 < (PDigs.digs y).getD m 0 → PDigs.cmp x y = -1) := Lib.hid (fun h => PDigs.cmp_lt (by
        have := PDigs.top_lt (PDigs.digs_dig x) (PDigs.digs_dig y) (HA.out.1.trans HB.out.1.symm) (by rw [HA.out.1]; omega) HR.out h
        rw [PDigs.val_digs, PDigs.val_digs] at this; omega))
      have hgt : Hid ((PDigs.digs y).getD m 0 < (PDigs.digs x).getD m 0 → PDigs.cmp x y = 1) := Lib.hid (fun h => PDigs.cmp_gt (by
        have := PDigs.top_lt (PDigs.digs_dig y) (PDigs.digs_dig x) (HB.out.1.trans HA.out.1.symm) (by rw [HB.out.1]; omega) HR.out.symm h
        rw [PDigs.val_digs, PDigs.val_digs] at this; omega))
      have heq : Hid ((PDigs.digs x).getD m 0 = (PDigs.digs y).getD m 0 → (PDigs.digs x).drop m = (PDigs.digs y).drop m) := Lib.hid (fun h => drop_step (HA.out.1.trans HB.out.1.symm) (by rw [HA.out.1]; omega) HR.out h)
      generalize (PDigs.digs x).getD m 0 = p at *
      generalize (PDigs.digs y).getD m 0 = q at *
      have i1 : (0 : Int) ≤ (m : Int) := by omega
      have i2 : (m : Int) < (len : Int) := by omega
      rw [show (((m + 1 : Nat) : Int) - 1) = (m : Int) by omega]
      by_cases c1 : p < q
      · have HF := Lib.hid (hlt.out c1)
        go_wp2_with fail
        go_quiet (fail)
        go_wp2_with fail
        go_ret
        exact ⟨by rw [HF.out]; rfl, below_drewN hbl _⟩
      · by_cases c2 : q < p
        · have HF := Lib.hid (hgt.out c2)
          go_wp2_with fail
          go_quiet (fail)
          go_wp2_with fail
          go_quiet (fail)
          go_wp2_with fail
          go_ret
          exact ⟨by rw [HF.out]; rfl, below_drewN (below_drewN hbl _) _⟩
        · have hpq : p = q := by omega
          have HF := Lib.hid (heq.out hpq)
          clear hpq
          go_wp2_with fail
          go_quiet (fail)
          go_wp2_with fail
          go_quiet (fail)
          go_wp2_with fail
          go_roundw
          case rel => exact ⟨m, by omega, rfl, HF.out, below_drewN hbl _⟩
          case measure => simp [intOf]

set_option maxHeartbeats 800000 in
theorem size_unlike (a b : Option Addr) (la lb ca cb : Nat) (w : World) (x y : Nat) (ha : Sl w a la (PDigs.digs x)) (hb : Sl w b lb (PDigs.digs y)) (h : la ≠ lb) :
    Calls Try.prog 45 #[.slice a la ca, .slice b lb cb] w fun e w' => e = .returned (.int .i64 (PDigs.cmp x y)) ∧ Below w.heap.size w w' := by
  have hlt : Hid (la < lb → PDigs.cmp x y = -1) := Lib.hid (fun h => PDigs.cmp_lt (PDigs.digs_len_mono (by rw [ha.1, hb.1]; exact h)))
  have hgt : Hid (lb < la → PDigs.cmp x y = 1) := Lib.hid (fun h => PDigs.cmp_gt (PDigs.digs_len_mono (by rw [ha.1, hb.1]; exact h)))
  have h1 := ha.2.2.1
  have h2 := hb.2.2.1
  clear ha hb
  have hne : ((la : Int) != (lb : Int)) = true := by rw [bne_iff_ne]; omega
  by_cases hl : la < lb
  · have HF := Lib.hid (hlt.out hl)
    go_enter Try.func45, Try.ntmps45
    go_wp2_with fail
    go_ret
    exact ⟨by rw [HF.out]; rfl, Below.refl _ _⟩
  · have HF := Lib.hid (hgt.out (by omega))
    go_enter Try.func45, Try.ntmps45
    go_wp2_with fail
    go_ret
    exact ⟨by rw [HF.out]; rfl, Below.refl _ _⟩
/-- size of two numbers' digits: which one is less. -/
theorem size_any (a b : Option Addr) (la lb ca cb : Nat) (w : World) (x y : Nat) (ha : Sl w a la (PDigs.digs x)) (hb : Sl w b lb (PDigs.digs y)) :
    Calls Try.prog 45 #[.slice a la ca, .slice b lb cb] w fun e w' => e = .returned (.int .i64 (PDigs.cmp x y)) ∧ Below w.heap.size w w' := by
  by_cases h : la = lb
  · subst h; exact size_same a b la ca cb x y w ha hb
  · exact size_unlike a b la lb ca cb w x y ha hb h
end Go.Proofs.Ytmmgejgmlhhfdaa
