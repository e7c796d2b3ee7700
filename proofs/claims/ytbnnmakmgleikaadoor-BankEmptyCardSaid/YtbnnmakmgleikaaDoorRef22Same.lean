/-
  Are two files the same: what the reference of layer 22 answers.
-/
import Derived.Test.YtbnnmakmgleikaaDoorBkFile
set_option linter.unusedVariables false
namespace Go.Proofs.YtbnnmakmgleikaaDoor
open Go.RowKit
open PBank (Pay)

set_option maxRecDepth 100000 in
set_option maxHeartbeats 6400000 in
theorem r22same_any {w : World} {per per' : Int} {A A' : Option Addr} {n n' c c' : Nat} {l l' : List Pay} (hS : SlX payR w A n l) (hS' : SlX payR w A' n' l') (hn : (n : Int) ≤ 9223372036854775807) :
    Calls Tryd.prog 16 #[.agg #[.int .i64 per, .slice A n c], .agg #[.int .i64 per', .slice A' n' c']] w (FlagB (decide (per = per' ∧ l = l')) w) := by
  obtain ⟨Q, hQ⟩ : ∃ Q, FlagB (decide (per = per' ∧ l = l')) w = Q := ⟨_, rfl⟩
  rw [hQ]
  have F : Hid (∀ (b : Bool) (w' : World), (b = true ↔ (per = per' ∧ l = l')) → Below w.heap.size w w' → Q (.returned (.bool b)) w') := Lib.hid (fun b w' h hb => by
    rw [← hQ]
    refine ⟨?_, hb⟩
    have : decide (per = per' ∧ l = l') = b := by rw [Bool.eq_iff_iff, decide_eq_true_eq, h]
    rw [this])
  obtain ⟨w1, hw1, XB, b1⟩ : ∃ w1, w.alloc (.cells #[.int .i64 per, .slice A n c] 32) = w1 ∧ Box w1 w.heap.size [.int .i64 per, .slice A n c] ∧ Below w.heap.size w w1 := ⟨_, rfl, Box.new _ _ [.int .i64 per, .slice A n c], (Below.refl _ _).alloc (Nat.le_refl _) _⟩
  obtain ⟨w2, hw2, YB, b2⟩ : ∃ w2, w1.alloc (.cells #[.int .i64 per', .slice A' n' c'] 32) = w2 ∧ Box w2 w1.heap.size [.int .i64 per', .slice A' n' c'] ∧ Below w1.heap.size w1 w2 := ⟨_, rfl, Box.new _ _ [.int .i64 per', .slice A' n' c'], (Below.refl _ _).alloc (Nat.le_refl _) _⟩
  have XB2 := XB.on b2
  have HL := Lib.hid hS.1; have HL' := Lib.hid hS'.1
  have B2 := Lib.hid (below_step b1 b2)
  have HS := Lib.hid (hS.on B2.out); have HS' := Lib.hid (hS'.on B2.out)
  have HW1 := Lib.hid hw1; have HW2 := Lib.hid hw2
  have hs1 : w1.heap.size = w.heap.size + 1 := by rw [← hw1]; simp
  rw [hs1] at YB
  obtain ⟨x0, x1⟩ := c2 XB2
  obtain ⟨y0, y1⟩ := c2 YB
  have hsx := XB2.1; have hsy := YB.1
  have HX := Lib.hid XB2; have HY := Lib.hid YB
  clear hQ XB YB XB2 b1 b2 hw1 hw2 hS hS' hs1
  by_cases p1 : per = per'
  · subst p1
    by_cases p2 : n = n'
    · subst p2
      go_enter Tryd.func16, Tryd.ntmps16
      go_upto_region 1 with fail
      rw [HW1.out, HW2.out]
      go_wp2_with fail
      clear x0 x1 y0 y1 hsx hsy
      go_loopw [5] (fun i wr => ∃ j : Nat, i = .int .i64 j ∧ j ≤ n ∧ Hid (∀ i, i < j → l[i]? = l'[i]?) ∧ Hid (Below w2.heap.size w2 wr)) (fun i _ => n - (intOf i).toNat)
      case atStart => exact ⟨0, rfl, Nat.zero_le _, Lib.hid (fun i h => absurd h (Nat.not_lt_zero _)), Lib.hid (Below.refl _ _)⟩
      case round =>
        obtain ⟨j, rfl, hj, J1, J2⟩ := hrel
        obtain ⟨x0, x1⟩ := c2 (HX.out.on J2.out)
        obtain ⟨y0, y1⟩ := c2 (HY.out.on J2.out)
        have hsx := (HX.out.on J2.out).1; have hsy := (HY.out.on J2.out).1
        by_cases hlt : j < n
        · have gj : (j : Int) < (n : Int) := by omega
          have gj0 : (0 : Int) ≤ (j : Int) := by omega
          obtain ⟨b, o, rfl, -⟩ := (HS.out.on J2.out).at hlt
          obtain ⟨b', o', rfl, -⟩ := (HS'.out.on J2.out).at hlt
          obtain ⟨p, hp⟩ : ∃ p, l[j]? = some p := ⟨_, List.getElem?_eq_getElem (by rw [HL.out]; exact hlt)⟩
          obtain ⟨q, hq⟩ : ∃ p, l'[j]? = some p := ⟨_, List.getElem?_eq_getElem (by rw [HL'.out]; exact hlt)⟩
          obtain ⟨l0, l1, l2⟩ := pay_cell (HS.out.on J2.out) hlt hp
          obtain ⟨m0, m1, m2⟩ := pay_cell (HS'.out.on J2.out) hlt hq
          have hsl := World.block_lt_of_cell? wr _ l0
          have hsm := World.block_lt_of_cell? wr _ m0
          have HP := Lib.hid hp; have HQ := Lib.hid hq
          obtain ⟨k, z, a⟩ := p
          obtain ⟨k', z', a'⟩ := q
          dsimp only at l0 l1 l2 m0 m1 m2
          clear hp hq
          by_cases e : k = k' ∧ z = z' ∧ a = a'
          · obtain ⟨rfl, rfl, rfl⟩ := e
            have HN : Hid (∀ i, i < j + 1 → l[i]? = l'[i]?) := Lib.hid (fun i hi => by
              rcases Nat.lt_or_ge i j with h | h
              · exact J1.out i h
              · obtain rfl : i = j := by omega
                rw [HP.out, HQ.out])
            have B9 := Lib.hid (J2.out.drew)
            go_upto_region 6 with fail
            go_region
            clear x0 x1 y0 y1 l0 l1 l2 m0 m1 m2 hsl hsm
            go_wp2_with fail
            exact ⟨⟨j + 1, congrArg (Value.int .i64) (by omega), by omega, HN, B9⟩, by simp [intOf]; omega⟩
          · have hne : ¬ l = l' := fun h => e (by
              have h2 := HP.out
              rw [h, HQ.out] at h2
              obtain ⟨h3, h4, h5⟩ := (PBank.Pay.mk.injEq ..).mp (Option.some.inj h2)
              exact ⟨h3.symm, h4.symm, h5.symm⟩)
            have B9 := Lib.hid (below_step B2.out (J2.out.drew))
            have h3 : ¬ k = k' ∨ (k = k' ∧ ¬ z = z') ∨ (k = k' ∧ z = z' ∧ ¬ a = a') := by omega
            rcases h3 with h3 | ⟨h4, h3⟩ | ⟨h4, h5, h3⟩
            all_goals
              go_upto_region 6 with fail
              go_region
              clear x0 x1 y0 y1 l0 l1 l2 m0 m1 m2 hsl hsm
              go_wp2_with fail
              exact F.out _ _ ⟨fun h => (by cases h), fun h => (hne h.2).elim⟩ B9.out
        · obtain rfl : j = n := by omega
          have hll : l = l' := List.ext_getElem? (fun i => by
            rcases Nat.lt_or_ge i j with h | h
            · exact J1.out i h
            · rw [List.getElem?_eq_none (by rw [HL.out]; exact h), List.getElem?_eq_none (by rw [HL'.out]; exact h)])
          have gj : ¬ (j : Int) < (j : Int) := by omega
          go_wp2_with fail
          exact F.out _ _ ⟨fun _ => ⟨trivial, hll⟩, fun _ => rfl⟩ (below_step B2.out J2.out)
    · have gn : ¬ (n : Int) = (n' : Int) := by omega
      go_enter Tryd.func16, Tryd.ntmps16
      go_upto_region 1 with fail
      rw [HW1.out, HW2.out]
      go_wp2_with fail
      exact F.out _ _ ⟨fun h => (by cases h), fun h => (p2 (by rw [← HL.out, ← HL'.out, h.2])).elim⟩ B2.out
  · go_enter Tryd.func16, Tryd.ntmps16
    go_upto_region 1 with fail
    rw [HW1.out, HW2.out]
    go_wp2_with fail
    exact F.out _ _ ⟨fun h => (by cases h), fun h => (p1 h.1).elim⟩ B2.out
end Go.Proofs.YtbnnmakmgleikaaDoor
