/-
  What the reference's Sum and Same of layer 4 answer.
-/
import Derived.Test.YtmmgejgmlhhfdaaRef01Add
import Derived.Deep.QuietTactic
import Derived.BigQuiet
namespace Go.Proofs.Ytmmgejgmlhhfdaa
open Go.RowKit

/-- The sum, or none. -/
def refSumV (l : List Int) : Value := match sumFrom 0 l with
  | some n => .tuple #[.int .i64 n, .bool true]
  | none => .tuple #[.int .i64 0, .bool false]
theorem refSumV_some {l : List Int} {n : Int} (h : sumFrom 0 l = some n) : refSumV l = .tuple #[.int .i64 n, .bool true] := by unfold refSumV; rw [h]
theorem refSumV_none {l : List Int} (h : sumFrom 0 l = none) : refSumV l = .tuple #[.int .i64 0, .bool false] := by unfold refSumV; rw [h]

theorem sumFrom_range : ∀ {l : List Int} {s n : Int}, -9223372036854775807 ≤ s → s ≤ 9223372036854775807 → sumFrom s l = some n → -9223372036854775807 ≤ n ∧ n ≤ 9223372036854775807
  | [], s, n, h0, h1, h => by simp only [sumFrom] at h; injection h with h; omega
  | k :: r, s, n, h0, h1, h => by
    simp only [sumFrom] at h
    by_cases ha : Adds s k
    · rw [if_pos ha] at h
      exact sumFrom_range ha.2.2.1 ha.2.2.2 h
    · rw [if_neg ha] at h; cases h

set_option maxHeartbeats 1600000 in
theorem refsum_any (a : Option Addr) (len cap : Nat) (l : List Int) (w : World) (h : Sl w a len l) :
    Calls Try.prog 29 #[.slice a len cap] w fun e w' => e = .returned (refSumV l) ∧ w = w' := by
  obtain ⟨hlen, hbd, hmax, hc⟩ := h
  have HL := Lib.hid hlen; have HB := Lib.hid hbd; have HC := Lib.hid hc
  clear hlen hbd hc
  go_enter Try.func29, Try.ntmps29
  go_wp2_with fail
  go_loopw [4, 5, 6] (fun s o i wr => ∃ (j : Nat), j ≤ len ∧ i = .int .i64 j ∧ ((∃ n : Int, s = .int .i64 n ∧ o = .bool true ∧ sumFrom 0 (l.take j) = some n) ∨ (s = .int .i64 0 ∧ o = .bool false ∧ sumFrom 0 l = none)) ∧ w = wr) (fun _ _ i _ => len - (intOf i).toNat)
  case atStart => exact ⟨0, Nat.zero_le _, rfl, .inl ⟨0, rfl, rfl, rfl⟩, rfl⟩
  case round =>
    obtain ⟨j, hj, rfl, hcase, rfl⟩ := hrel
    rcases hcase with ⟨n, rfl, rfl, hs⟩ | ⟨rfl, rfl, hs⟩
    · have hr := sumFrom_range (by omega) (by omega) hs
      have HS := Lib.hid hs; clear hs
      by_cases hlt : j < len
      · obtain ⟨b, off, rfl, hcell⟩ : ∃ b off, a = some ⟨b, off, none⟩ ∧ ∀ i, i < len → w.cell? ⟨b, off + i, none⟩ = some (.int .i64 (l.getD i 0)) := by
          rcases HC.out with h | h
          · omega
          · exact h
        have hcj := hcell j hlt
        obtain ⟨hb1, hb2⟩ := HB.out j hlt
        clear hcell
        generalize hk : l.getD j 0 = k at *
        have HK := Lib.hid hk; clear hk
        have i1 : (0 : Int) ≤ (j : Int) := by omega
        have i2 : (j : Int) < (len : Int) := by omega
        by_cases had : Adds n k
        · have HD := Lib.hid had; clear had
          go_wp2_with fail
          refine (refadd_yes n k _ hb2 HD.out).mono ?_
          rintro _ _ ⟨rfl, rfl⟩
          go_wp2_with fail
          refine ⟨⟨j + 1, by omega, rfl, .inl ⟨n + k, rfl, rfl, ?_⟩, by first | rfl | trivial⟩, by simp only [intOf]; omega⟩
          rw [← HK.out]; exact sum_next (by rw [HL.out]; exact hlt) HS.out (by rw [HK.out]; exact HD.out)
        · have HD := Lib.hid had; clear had
          go_wp2_with fail
          refine (refadd_no n k _ (by omega) (by omega) hb1 hb2 HD.out).mono ?_
          rintro _ _ ⟨rfl, rfl⟩
          go_wp2_with fail
          refine ⟨⟨j + 1, by omega, rfl, .inr ⟨rfl, rfl, ?_⟩, by first | rfl | trivial⟩, by simp only [intOf]; omega⟩
          exact sum_fail (by rw [HL.out]; exact hlt) HS.out (by rw [HK.out]; exact HD.out)
      · obtain rfl : j = len := by omega
        have HR := Lib.hid (refSumV_some (by have := HS.out; rwa [List.take_of_length_le (by rw [HL.out]; exact Nat.le_refl _)] at this))
        go_wp2_with fail
        go_ret2
        exact ⟨by rw [HR.out]; rfl, rfl⟩
    · have HR := Lib.hid (refSumV_none hs)
      clear hs
      by_cases hlt : j < len
      · go_wp2_with fail
        go_ret2
        exact ⟨by rw [HR.out]; rfl, rfl⟩
      · go_wp2_with fail
        go_ret2
        exact ⟨by rw [HR.out]; rfl, rfl⟩

theorem below_drewQ {B : Nat} {a w : World} (h : Below B a w) (n : Nat) : Below B a (w.drewN n) := ⟨h.os, h.tape, h.output, h.size, h.block⟩
theorem getD_ext {l m : List Int} (hl : l.length = m.length) (h : ∀ i, i < l.length → l.getD i 0 = m.getD i 0) : l = m := by
  apply List.ext_getElem hl
  intro i h1 h2
  have := h i h1
  simpa [List.getD, h1, h2] using this

set_option maxHeartbeats 1600000 in
theorem same_any (a b : Option Addr) (la lb ca cb : Nat) (l m : List Int) (w : World) (ha : Sl w a la l) (hb : Sl w b lb m) :
    Calls Try.prog 13 #[.slice a la ca, .slice b lb cb] w fun e w' => e = .returned (.bool (decide (l = m))) ∧ Below w.heap.size w w' := by
  have HA := Lib.hid ha; have HB := Lib.hid hb
  have hmax := ha.2.2.1
  clear ha hb
  by_cases hlen : la = lb
  · subst hlen
    go_enter Try.func13, Try.ntmps13
    go_wp2_with fail
    go_loopw [5] (fun i wr => ∃ j : Nat, j ≤ la ∧ i = .int .i64 j ∧ (∀ t, t < j → l.getD t 0 = m.getD t 0) ∧ Below w.heap.size w wr) (fun i _ => la - (intOf i).toNat)
    case atStart => exact ⟨0, Nat.zero_le _, rfl, fun t ht => by omega, Below.refl _ _⟩
    case round =>
      obtain ⟨j, hj, rfl, heq, hbl⟩ := hrel
      have HE := Lib.hid heq; clear heq
      by_cases hlt : j < la
      · obtain ⟨b1, o1, rfl, hc1⟩ : ∃ b off, a = some ⟨b, off, none⟩ ∧ ∀ i, i < la → w.cell? ⟨b, off + i, none⟩ = some (.int .i64 (l.getD i 0)) := by
          rcases HA.out.2.2.2 with h | h
          · omega
          · exact h
        obtain ⟨b2, o2, rfl, hc2⟩ : ∃ b' off, b = some ⟨b', off, none⟩ ∧ ∀ i, i < la → w.cell? ⟨b', off + i, none⟩ = some (.int .i64 (m.getD i 0)) := by
          rcases HB.out.2.2.2 with h | h
          · omega
          · exact h
        have g1 := (hbl.cell (World.block_lt_of_cell? w _ (hc1 j hlt))).trans (hc1 j hlt)
        have g2 := (hbl.cell (World.block_lt_of_cell? w _ (hc2 j hlt))).trans (hc2 j hlt)
        clear hc1 hc2
        have i1 : (0 : Int) ≤ (j : Int) := by omega
        have i2 : (j : Int) < (la : Int) := by omega
        by_cases hx : l.getD j 0 = m.getD j 0
        · have HN : Hid (∀ t, t < j + 1 → l.getD t 0 = m.getD t 0) := Lib.hid (fun t ht => by
            by_cases e : t = j
            · rw [e]; exact hx
            · exact HE.out t (by omega))
          have hb0 : (l.getD j 0 != m.getD j 0) = false := by rw [bne_eq_false_iff_eq]; exact hx
          clear hx
          generalize l.getD j 0 = x at *
          generalize m.getD j 0 = y at *
          go_wp2_with fail
          go_quiet (fail)
          go_wp2_with fail
          exact ⟨⟨j + 1, by omega, rfl, HN.out, below_drewQ hbl _⟩, by simp [intOf]; omega⟩
        · have HR : Hid (decide (l = m) = false) := Lib.hid (decide_eq_false (fun h => hx (by rw [h])))
          have hb0 : (l.getD j 0 != m.getD j 0) = true := by rw [bne_iff_ne]; exact hx
          clear hx
          generalize l.getD j 0 = x at *
          generalize m.getD j 0 = y at *
          go_wp2_with fail
          go_quiet (fail)
          go_wp2_with fail
          go_ret
          exact ⟨by rw [HR.out]; rfl, below_drewQ hbl _⟩
      · obtain rfl : j = la := by omega
        have HR : Hid (decide (l = m) = true) := Lib.hid (decide_eq_true (getD_ext (HA.out.1.trans HB.out.1.symm) (fun i hi => HE.out i (by rw [HA.out.1] at hi; exact hi))))
        go_wp2_with fail
        go_ret
        exact ⟨by rw [HR.out]; rfl, hbl⟩
  · have HR : Hid (decide (l = m) = false) := Lib.hid (decide_eq_false (fun h => hlen (by rw [← HA.out.1, ← HB.out.1, h])))
    have hb0 : ((la : Int) != (lb : Int)) = true := by rw [bne_iff_ne]; omega
    go_enter Try.func13, Try.ntmps13
    go_wp2_with fail
    go_ret
    exact ⟨by rw [HR.out]; rfl, Below.refl _ _⟩
end Go.Proofs.Ytmmgejgmlhhfdaa
