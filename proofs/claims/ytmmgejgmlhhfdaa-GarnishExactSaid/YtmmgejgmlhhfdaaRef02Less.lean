/-
  What the reference's less answers: the digits of the difference.
-/
import Derived.Test.YtmmgejgmlhhfdaaRef02Size
namespace Go.Proofs.Ytmmgejgmlhhfdaa
open Go.RowKit

/-- A slice that holds a number's digits, and may be cut and appended. -/
def Num (w : World) (A : Option Addr) (n cap : Nat) (z : Nat) : Prop := (A = none → cap = 0) ∧ n ≤ cap ∧ cap ≤ 9223372036854775807 ∧ Sl w A n (PDigs.digs z)
theorem Num.on {w w' : World} {A : Option Addr} {n cap z : Nat} (h : Num w A n cap z) (hb : Below w.heap.size w w') : Num w' A n cap z := ⟨h.1, h.2.1, h.2.2.1, h.2.2.2.on hb⟩
theorem Num.sl {w : World} {A : Option Addr} {n cap z : Nat} (h : Num w A n cap z) : Sl w A n (PDigs.digs z) := h.2.2.2
theorem Num.len {w : World} {A : Option Addr} {n cap z : Nat} (h : Num w A n cap z) : (PDigs.digs z).length = n := h.2.2.2.1
/-- A call that answers such a slice. -/
def NumR (z : Nat) (w : World) (e : Ending) (w' : World) : Prop := ∃ A n cap, e = .returned (.slice A n cap) ∧ Num w' A n cap z ∧ Below w.heap.size w w'

/-- .. in memory that is new from B on. -/
def NumF (B z : Nat) (w : World) (e : Ending) (w' : World) : Prop := ∃ A n cap, e = .returned (.slice A n cap) ∧ Num w' A n cap z ∧ (∀ ad, A = some ad → B ≤ ad.block) ∧ Below w.heap.size w w'
theorem dig_in64 {l : List Int} (h : PDigs.Dig l) : In64 l := fun i hi => by
  have : l.getD i 0 ∈ l := by simp [List.getD, hi]
  have := h _ this
  omega
theorem dig_get {l : List Int} (h : PDigs.Dig l) (i : Nat) : 0 ≤ l.getD i 0 ∧ l.getD i 0 ≤ 9 := by
  by_cases hi : i < l.length
  · exact h _ (by simp [List.getD, hi])
  · simp [List.getD, hi]
/-- trim of a row of digits that the call has made. -/
theorem trim_own {w : World} {base n : Nat} {v : Value} {l : List Int} (hown : w.ownsRow base 3 1 v n (cellsOfInts l)) (hd : PDigs.Dig l) (hn : n ≤ 1000) :
    Calls Try.prog 44 #[v] w fun e w' => ∃ A k cap, e = .returned (.slice A k cap) ∧ Num w A k cap (PDigs.val l).toNat ∧ (∀ ad, A = some ad → base ≤ ad.block) ∧ w = w' := by
  obtain ⟨A, cap, rfl, h1, h2, h3, h4⟩ := sl_of_own hown (dig_in64 hd) (by omega)
  refine (trim_any A n cap l w h4 hd h2 h3).mono ?_
  rintro e w' ⟨k, rfl, hk, hs, rfl⟩
  exact ⟨A, k, cap, rfl, ⟨h1, by omega, h3, hs⟩, (fun ad e => by subst e; exact (hown.lt ad.block rfl).1), rfl⟩

set_option maxHeartbeats 3200000 in
set_option maxRecDepth 100000 in
theorem less_fresh (a b : Option Addr) (la lb ca cb : Nat) (x y : Nat) (w : World) (ha : Sl w a la (PDigs.digs x)) (hb : Sl w b lb (PDigs.digs y)) (hxy : y ≤ x) (hla : la ≤ 100) :
    Calls Try.prog 46 #[.slice a la ca, .slice b lb cb] w (NumF w.heap.size (x - y) w) := by
  have HA := Lib.hid ha
  have HB := Lib.hid hb
  have HXY := Lib.hid hxy
  have hlb : lb ≤ 9223372036854775807 := hb.2.2.1
  clear ha hb hxy
  go_enter Try.func46, Try.ntmps46
  go_wp2_with fail
  go_loopw [5, 6, 7] (fun v bo i wr => ∃ (j : Nat) (o : List Int) (c : Int), j ≤ la ∧ i = .int .i64 j ∧ bo = .int .i64 c ∧ PDigs.Lessed x y j o c ∧ wr.ownsRow w.heap.size 3 1 v j (cellsOfInts o) ∧ Below w.heap.size w wr) (fun _ _ i _ => la - (intOf i).toNat)
  case atStart => exact ⟨0, [], 0, Nat.zero_le _, rfl, rfl, PDigs.lessed_zero x y, World.ownsRow_nil _ _ _ _, Below.refl _ _⟩
  case round =>
    obtain ⟨j, o, c, hj, rfl, rfl, hle, hown, hbl⟩ := hrel
    have HL := Lib.hid hle
    have hc : c = 0 ∨ c = 1 := hle.2.2.1
    have hc0 : 0 ≤ c := by omega
    have hc1 : c ≤ 1 := by omega
    clear hle hc
    have HO := Lib.hid hown; clear hown
    by_cases hlt : j < la
    · obtain ⟨b1, o1, rfl, hcell⟩ : ∃ b off, a = some ⟨b, off, none⟩ ∧ ∀ i, i < la → w.cell? ⟨b, off + i, none⟩ = some (.int .i64 ((PDigs.digs x).getD i 0)) := by
        rcases HA.out.2.2.2 with h | h
        · omega
        · exact h
      have g1 := (hbl.cell (World.block_lt_of_cell? w _ (hcell j hlt))).trans (hcell j hlt)
      clear hcell
      obtain ⟨p0, p1⟩ := dig_get (PDigs.digs_dig x) j
      obtain ⟨q0, q1⟩ := dig_get (PDigs.digs_dig y) j
      have HN : Hid (∀ d c' : Int, 0 ≤ d → d ≤ 9 → (c' = 0 ∨ c' = 1) → d - 10 * c' = (PDigs.digs x).getD j 0 - c - (PDigs.digs y).getD j 0 → PDigs.Lessed x y (j + 1) (o ++ [d]) c') := Lib.hid (fun d c' h1 h2 h3 h4 => PDigs.lessed_next HL.out ⟨h1, h2⟩ h3 h4)
      by_cases hjb : j < lb
      · obtain ⟨b2, o2, rfl, hcell⟩ : ∃ b' off, b = some ⟨b', off, none⟩ ∧ ∀ i, i < lb → w.cell? ⟨b', off + i, none⟩ = some (.int .i64 ((PDigs.digs y).getD i 0)) := by
          rcases HB.out.2.2.2 with h | h
          · omega
          · exact h
        have g2 := (hbl.cell (World.block_lt_of_cell? w _ (hcell j hjb))).trans (hcell j hjb)
        clear hcell
        generalize (PDigs.digs x).getD j 0 = p at *
        generalize (PDigs.digs y).getD j 0 = q at *
        by_cases hneg : p - c - q < 0
        · obtain ⟨d, hd⟩ : ∃ d, p - c - q + 10 = d := ⟨_, rfl⟩
          have HY := Lib.hid (HN.out d 1 (by omega) (by omega) (.inr rfl) (by omega))
          go_wp2_with (at_builtin; refine append_one rfl _ _ rfl w.heap.size u5 j o d (by rfl) HO.out (by rfl) (by omega) hbl.size ?_)
          intro v' w1 hown' hb'
          have HW := Lib.hid hown'; clear hown'
          have hall : Below w.heap.size w w1 := hbl.trans hb'
          go_wp2_with fail
          go_roundw
          case rel => exact ⟨j + 1, _, 1, by omega, by go_num, rfl, HY.out, HW.out, hall⟩
          case measure => simp [intOf]; omega
        · obtain ⟨d, hd⟩ : ∃ d, p - c - q = d := ⟨_, rfl⟩
          have HY := Lib.hid (HN.out d 0 (by omega) (by omega) (.inl rfl) (by omega))
          go_wp2_with (at_builtin; refine append_one rfl _ _ rfl w.heap.size u5 j o d (by rfl) HO.out (by rfl) (by omega) hbl.size ?_)
          intro v' w1 hown' hb'
          have HW := Lib.hid hown'; clear hown'
          have hall : Below w.heap.size w w1 := hbl.trans hb'
          go_wp2_with fail
          go_roundw
          case rel => exact ⟨j + 1, _, 0, by omega, by go_num, rfl, HY.out, HW.out, hall⟩
          case measure => simp [intOf]; omega
      · have hq : (PDigs.digs y).getD j 0 = 0 := by
          have := HB.out.1
          simp [List.getD, show ¬ j < (PDigs.digs y).length by omega]
        rw [hq] at HN
        clear q0 q1 hq
        generalize (PDigs.digs x).getD j 0 = p at *
        by_cases hneg : p - c < 0
        · obtain ⟨d, hd⟩ : ∃ d, p - c + 10 = d := ⟨_, rfl⟩
          have HY := Lib.hid (HN.out d 1 (by omega) (by omega) (.inr rfl) (by omega))
          go_wp2_with (at_builtin; refine append_one rfl _ _ rfl w.heap.size u5 j o d (by rfl) HO.out (by rfl) (by omega) hbl.size ?_)
          intro v' w1 hown' hb'
          have HW := Lib.hid hown'; clear hown'
          have hall : Below w.heap.size w w1 := hbl.trans hb'
          go_wp2_with fail
          go_roundw
          case rel => exact ⟨j + 1, _, 1, by omega, by go_num, rfl, HY.out, HW.out, hall⟩
          case measure => simp [intOf]; omega
        · obtain ⟨d, hd⟩ : ∃ d, p - c = d := ⟨_, rfl⟩
          have HY := Lib.hid (HN.out d 0 (by omega) (by omega) (.inl rfl) (by omega))
          go_wp2_with (at_builtin; refine append_one rfl _ _ rfl w.heap.size u5 j o d (by rfl) HO.out (by rfl) (by omega) hbl.size ?_)
          intro v' w1 hown' hb'
          have HW := Lib.hid hown'; clear hown'
          have hall : Below w.heap.size w w1 := hbl.trans hb'
          go_wp2_with fail
          go_roundw
          case rel => exact ⟨j + 1, _, 0, by omega, by go_num, rfl, HY.out, HW.out, hall⟩
          case measure => simp [intOf]; omega
    · obtain rfl : j = la := by omega
      have HV : Hid ((PDigs.val o).toNat = x - y) := Lib.hid (PDigs.lessed_end (by rw [HA.out.1]; exact HL.out) HXY.out)
      go_wp2_with fail
      refine (trim_own HO.out HL.out.2.1 (by omega)).mono ?_
      rintro _ _ ⟨A, k, cap, rfl, hn, hfr, rfl⟩
      rw [HV.out] at hn
      have HM := Lib.hid hn; have HFR := Lib.hid hfr; clear hn hfr
      go_wp2
      go_ret
      exact ⟨A, k, cap, rfl, HM.out, HFR.out, hbl⟩
end Go.Proofs.Ytmmgejgmlhhfdaa
