/-
  Is it a file: what the landed bank answers.
-/
import Derived.Test.YtbnnmakmgleikaaDoorBkCmp
import Derived.Deep.RegionHeld3
set_option linter.unusedVariables false
namespace Go.Proofs.YtbnnmakmgleikaaDoor
open Go.RowKit
open PBank (Pay)

def payV (p : Pay) : Value := .agg #[.int .u8 p.kind, .int .i64 p.num, .int .i64 p.amt]
/-- A flag, and new blocks only. -/
def FlagB (b : Bool) (w : World) (e : Ending) (w' : World) : Prop := e = .returned (.bool b) ∧ Below w.heap.size w w'
def IntB (z : Int) (w : World) (e : Ending) (w' : World) : Prop := e = .returned (.int .i64 z) ∧ Below w.heap.size w w'
theorem b3 {w : World} {H : Nat} {a b c : Value} (h : Box w H [a, b, c]) : w.cell? ⟨H, 0, none⟩ = some a ∧ w.cell? ⟨H, 1, none⟩ = some b ∧ w.cell? ⟨H, 2, none⟩ = some c := ⟨h.c 0 rfl, h.c 1 rfl, h.c 2 rfl⟩
set_option maxHeartbeats 3200000 in
theorem kispay_any (p : Pay) (w : World) : Calls Tryd.prog 22 #[.agg #[.int .u8 p.kind, .int .i64 p.num, .int .i64 p.amt]] w (FlagB (PBank.okP p) w) := by
  obtain ⟨Q, hQ⟩ : ∃ Q, FlagB (PBank.okP p) w = Q := ⟨_, rfl⟩
  rw [hQ]
  obtain ⟨k, z, a⟩ := p
  have F : Hid (∀ (b : Bool) (w' : World), (b = true ↔ (k = 69 ∨ k = 67) ∧ 1 ≤ z ∧ z ≤ 2147483647 ∧ 1 ≤ a ∧ a ≤ 1125899906842624) → Below w.heap.size w w' → Q (.returned (.bool b)) w') := Lib.hid (fun b w' h hb => by
    rw [← hQ]
    refine ⟨?_, hb⟩
    have : PBank.okP ⟨k, z, a⟩ = b := by rw [Bool.eq_iff_iff, PBank.okP_iff, h]
    rw [this])
  obtain ⟨w1, hw1, XB, b1⟩ : ∃ w1, w.alloc (.cells #[.int .u8 k, .int .i64 z, .int .i64 a] 44) = w1 ∧ Box w1 w.heap.size [.int .u8 k, .int .i64 z, .int .i64 a] ∧ Below w.heap.size w w1 := ⟨_, rfl, Box.new _ _ [.int .u8 k, .int .i64 z, .int .i64 a], (Below.refl _ _).alloc (Nat.le_refl _) _⟩
  obtain ⟨x0, x1, x2⟩ := b3 XB
  have hsx := XB.1
  have B1 := Lib.hid b1; have HW1 := Lib.hid hw1
  clear hQ XB b1 hw1
  have hk3 : ((k == 69) = false ∧ (k == 67) = false ∧ ¬ (k = 69 ∨ k = 67)) ∨ ((k == 69) = true ∧ (k = 69 ∨ k = 67)) ∨ ((k == 69) = false ∧ (k == 67) = true ∧ (k = 69 ∨ k = 67)) := by
    simp only [beq_iff_eq, beq_eq_false_iff_ne]; omega
  rcases hk3 with ⟨g1, g2, h0⟩ | ⟨g1, h0⟩ | ⟨g1, g2, h0⟩
  · have H0 := Lib.hid h0
    clear h0
    go_enter Tryd.func22, Tryd.ntmps22
    go_upto_region 1 with fail
    rw [HW1.out]
    go_wp2_with fail
    exact F.out _ _ ⟨fun h => (by cases h), fun h => absurd h.1 H0.out⟩ B1.out
  all_goals
    have H0 := Lib.hid h0
    clear h0
    by_cases z1 : 1 ≤ z
    · by_cases z2 : z ≤ 2147483647
      · by_cases a1 : 1 ≤ a
        · by_cases a2 : a ≤ 1125899906842624
          · go_enter Tryd.func22, Tryd.ntmps22
            go_upto_region 1 with fail
            rw [HW1.out]
            go_wp2_with fail
            exact F.out _ _ ⟨fun _ => ⟨H0.out, z1, z2, a1, a2⟩, fun _ => rfl⟩ B1.out
          · go_enter Tryd.func22, Tryd.ntmps22
            go_upto_region 1 with fail
            rw [HW1.out]
            go_wp2_with fail
            exact F.out _ _ ⟨fun h => (by cases h), fun h => (by have := h.2.2.2.2; omega)⟩ B1.out
        · go_enter Tryd.func22, Tryd.ntmps22
          go_upto_region 1 with fail
          rw [HW1.out]
          go_wp2_with fail
          exact F.out _ _ ⟨fun h => (by cases h), fun h => (by have := h.2.2.2.1; omega)⟩ B1.out
      · go_enter Tryd.func22, Tryd.ntmps22
        go_upto_region 1 with fail
        rw [HW1.out]
        go_wp2_with fail
        exact F.out _ _ ⟨fun h => (by cases h), fun h => (by have := h.2.2.1; omega)⟩ B1.out
    · go_enter Tryd.func22, Tryd.ntmps22
      go_upto_region 1 with fail
      rw [HW1.out]
      go_wp2_with fail
      exact F.out _ _ ⟨fun h => (by cases h), fun h => (by have := h.2.1; omega)⟩ B1.out
end Go.Proofs.YtbnnmakmgleikaaDoor
