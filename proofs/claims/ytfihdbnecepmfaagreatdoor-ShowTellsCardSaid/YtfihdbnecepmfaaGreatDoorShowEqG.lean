/-
  What the library's slices.Equal answers for rules and for expressions: whether the lists are the same.
-/
import Derived.Test.YtfihdbnecepmfaaGreatDoorShowLinesG
import Derived.Deep.RegionHeld3

set_option linter.unusedVariables false
namespace Go.Proofs.YtfihdbnecepmfaaGreatDoor
open Go.RowKit
open PCheck (Xp)

theorem take_same {α : Type} {l m : List α} {k : Nat} {x : α} (h : l.take k = m.take k) (hl : l[k]? = some x) (hm : m[k]? = some x) : l.take (k + 1) = m.take (k + 1) := by
  obtain ⟨h1, rfl⟩ := List.getElem?_eq_some_iff.1 hl
  obtain ⟨h2, h3⟩ := List.getElem?_eq_some_iff.1 hm
  rw [List.take_succ_eq_append_getElem h1, List.take_succ_eq_append_getElem h2, h, h3]
/-- A bool is answered; new memory only. -/
def BoolAns (b : Bool) (w : World) (e : Ending) (w' : World) : Prop := e = .returned (.bool b) ∧ Below w.heap.size w w'
set_option maxHeartbeats 6400000 in
set_option maxRecDepth 100000 in
theorem kequal_rules {w : World} {A1 A2 : Option Addr} {n1 n2 c1 c2 : Nat} {L1 L2 : List Rw} (h1 : SlX rlR w A1 n1 L1) (h2 : SlX rlR w A2 n2 L2) (hn1 : n1 ≤ 1000000) (hn2 : n2 ≤ 1000000) :
    Calls Tryz.prog 38 #[.slice A1 n1 c1, .slice A2 n2 c2] w (BoolAns (decide (L1 = L2)) w) := by
  obtain ⟨Q, hQ⟩ : ∃ Q, BoolAns (decide (L1 = L2)) w = Q := ⟨_, rfl⟩
  rw [hQ]
  have FIN : Hid (∀ (b : Bool) (w' : World), decide (L1 = L2) = b → Below w.heap.size w w' → Q (.returned (.bool b)) w') := Lib.hid (fun b w' e a => by rw [← hQ]; exact ⟨by rw [e], a⟩)
  have e1 : L1.length = n1 := h1.1
  have e2 : L2.length = n2 := h2.1
  have H1 := Lib.hid h1; have H2 := Lib.hid h2; have E1 := Lib.hid e1; have E2 := Lib.hid e2
  clear hQ h1 h2
  by_cases hn : n1 = n2
  · subst hn
    clear e1 e2
    go_enter Tryz.func38, Tryz.ntmps38
    go_wp2_with fail
    go_loopw [13] (fun i wx => ∃ k : Nat, i = .int .i64 k ∧ k ≤ n1 ∧ Hid (L1.take k = L2.take k) ∧ Hid (Below w.heap.size w wx)) (fun i _ => n1 - (intOf i).toNat)
    case atStart => exact ⟨0, rfl, Nat.zero_le _, Lib.hid rfl, Lib.hid (Below.refl _ _)⟩
    case round =>
      obtain ⟨k, rfl, hk, I1, I2⟩ := hrel
      by_cases hkn : k < n1
      · have hk1 : k < L1.length := by rw [E1.out]; exact hkn
        have hk2 : k < L2.length := by rw [E2.out]; exact hkn
        obtain ⟨⟨a1, b1, r1⟩, hx1⟩ : ∃ r, L1[k] = r := ⟨_, rfl⟩
        obtain ⟨⟨a2, b2, r2⟩, hx2⟩ : ∃ r, L2[k] = r := ⟨_, rfl⟩
        have g1 : L1[k]? = some (a1, b1, r1) := by rw [List.getElem?_eq_getElem hk1, hx1]
        have g2 : L2[k]? = some (a2, b2, r2) := by rw [List.getElem?_eq_getElem hk2, hx2]
        obtain ⟨pb1, o1, rfl, d1⟩ := (H1.out.on I2.out).at hkn
        obtain ⟨pb2, o2, rfl, d2⟩ := (H2.out.on I2.out).at hkn
        have f1 := d1 k hk1
        have f2 := d2 k hk2
        rw [hx1] at f1
        rw [hx2] at f2
        have x0 : wr.cell? ⟨pb1, o1 + k * 3, none⟩ = some (.string ⟨a1.toArray⟩) := f1 0 _ rfl
        have y0 : wr.cell? ⟨pb2, o2 + k * 3, none⟩ = some (.string ⟨a2.toArray⟩) := f2 0 _ rfl
        have x1 : wr.cell? ⟨pb1, o1 + k * 3 + 1, none⟩ = some (.string ⟨b1.toArray⟩) := f1 1 _ rfl
        have y1 : wr.cell? ⟨pb2, o2 + k * 3 + 1, none⟩ = some (.string ⟨b2.toArray⟩) := f2 1 _ rfl
        have x2 : wr.cell? ⟨pb1, o1 + k * 3 + 2, none⟩ = some (.int .i64 r1) := f1 2 _ rfl
        have y2 : wr.cell? ⟨pb2, o2 + k * 3 + 2, none⟩ = some (.int .i64 r2) := f2 2 _ rfl
        have G1 := Lib.hid g1; have G2 := Lib.hid g2
        clear d1 d2 f1 f2 hx1 hx2 hk1 hk2 g1 g2
        have gk : (k : Int) < (n1 : Int) := by omega
        by_cases s0 : a1 = a2
        case neg =>
          have hd : decide (L1 = L2) = false := by
            rw [decide_eq_false_iff_not]; intro e
            have h := G1.out
            rw [e, G2.out] at h
            cases h
            exact s0 rfl
          have HD := Lib.hid hd
          have hb : (a1 == a2) = false := by rw [beq_eq_false_iff_ne]; exact s0
          clear hd s0 G1 G2
          go_wp2_with fail
          go_region
          all_goals
            go_wp2_with fail
            exact FIN.out _ _ HD.out I2.out.drew
        subst s0
        by_cases s1 : b1 = b2
        case neg =>
          have hd : decide (L1 = L2) = false := by
            rw [decide_eq_false_iff_not]; intro e
            have h := G1.out
            rw [e, G2.out] at h
            cases h
            exact s1 rfl
          have HD := Lib.hid hd
          have hb : (b1 == b2) = false := by rw [beq_eq_false_iff_ne]; exact s1
          clear hd s1 G1 G2
          go_wp2_with fail
          go_region
          all_goals
            go_wp2_with fail
            exact FIN.out _ _ HD.out I2.out.drew
        subst s1
        by_cases s2 : r1 = r2
        case neg =>
          have hd : decide (L1 = L2) = false := by
            rw [decide_eq_false_iff_not]; intro e
            have h := G1.out
            rw [e, G2.out] at h
            cases h
            exact s2 rfl
          have HD := Lib.hid hd
          have hb : (r1 == r2) = false := by rw [beq_eq_false_iff_ne]; exact s2
          clear hd s2 G1 G2
          go_wp2_with fail
          go_region
          all_goals
            go_wp2_with fail
            exact FIN.out _ _ HD.out I2.out.drew
        subst s2
        have J := Lib.hid (take_same I1.out G1.out G2.out)
        go_wp2_with fail
        go_region
        all_goals
          go_wp2_with fail
          exact ⟨⟨k + 1, by congr 1, by omega, J, Lib.hid I2.out.drew⟩, by simp [intOf]; omega⟩
      · have hek : k = n1 := by omega
        have hd : decide (L1 = L2) = true := by
          rw [decide_eq_true_eq]
          have h := I1.out
          rw [List.take_of_length_le (by rw [E1.out]; omega), List.take_of_length_le (by rw [E2.out]; omega)] at h
          exact h
        have HD := Lib.hid hd
        have gk : ¬ (k : Int) < (n1 : Int) := by omega
        clear hd hek I1
        go_wp2_with fail
        exact FIN.out _ _ HD.out I2.out
  · have hd : decide (L1 = L2) = false := by rw [decide_eq_false_iff_not]; intro e; rw [e] at e1; omega
    have HD := Lib.hid hd
    have hne : ((n1 : Int) == (n2 : Int)) = false := by rw [beq_eq_false_iff_ne]; omega
    clear hd e1 e2
    go_enter Tryz.func38, Tryz.ntmps38
    go_wp2_with fail
    exact FIN.out _ _ HD.out (Below.refl _ _)
set_option maxHeartbeats 6400000 in
set_option maxRecDepth 100000 in
theorem kequal_exprs {w : World} {A1 A2 : Option Addr} {n1 n2 c1 c2 : Nat} {L1 L2 : List Xp} (h1 : SlX xpR w A1 n1 L1) (h2 : SlX xpR w A2 n2 L2) (hn1 : n1 ≤ 1000000) (hn2 : n2 ≤ 1000000) :
    Calls Tryz.prog 39 #[.slice A1 n1 c1, .slice A2 n2 c2] w (BoolAns (decide (L1 = L2)) w) := by
  obtain ⟨Q, hQ⟩ : ∃ Q, BoolAns (decide (L1 = L2)) w = Q := ⟨_, rfl⟩
  rw [hQ]
  have FIN : Hid (∀ (b : Bool) (w' : World), decide (L1 = L2) = b → Below w.heap.size w w' → Q (.returned (.bool b)) w') := Lib.hid (fun b w' e a => by rw [← hQ]; exact ⟨by rw [e], a⟩)
  have e1 : L1.length = n1 := h1.1
  have e2 : L2.length = n2 := h2.1
  have H1 := Lib.hid h1; have H2 := Lib.hid h2; have E1 := Lib.hid e1; have E2 := Lib.hid e2
  clear hQ h1 h2
  by_cases hn : n1 = n2
  · subst hn
    clear e1 e2
    go_enter Tryz.func39, Tryz.ntmps39
    go_wp2_with fail
    go_loopw [13] (fun i wx => ∃ k : Nat, i = .int .i64 k ∧ k ≤ n1 ∧ Hid (L1.take k = L2.take k) ∧ Hid (Below w.heap.size w wx)) (fun i _ => n1 - (intOf i).toNat)
    case atStart => exact ⟨0, rfl, Nat.zero_le _, Lib.hid rfl, Lib.hid (Below.refl _ _)⟩
    case round =>
      obtain ⟨k, rfl, hk, I1, I2⟩ := hrel
      by_cases hkn : k < n1
      · have hk1 : k < L1.length := by rw [E1.out]; exact hkn
        have hk2 : k < L2.length := by rw [E2.out]; exact hkn
        obtain ⟨⟨a1, b1, r1, p1, q1, t1⟩, hx1⟩ : ∃ r, L1[k] = r := ⟨_, rfl⟩
        obtain ⟨⟨a2, b2, r2, p2, q2, t2⟩, hx2⟩ : ∃ r, L2[k] = r := ⟨_, rfl⟩
        have g1 : L1[k]? = some ⟨a1, b1, r1, p1, q1, t1⟩ := by rw [List.getElem?_eq_getElem hk1, hx1]
        have g2 : L2[k]? = some ⟨a2, b2, r2, p2, q2, t2⟩ := by rw [List.getElem?_eq_getElem hk2, hx2]
        obtain ⟨pb1, o1, rfl, d1⟩ := (H1.out.on I2.out).at hkn
        obtain ⟨pb2, o2, rfl, d2⟩ := (H2.out.on I2.out).at hkn
        have f1 := d1 k hk1
        have f2 := d2 k hk2
        rw [hx1] at f1
        rw [hx2] at f2
        have x0 : wr.cell? ⟨pb1, o1 + k * 6, none⟩ = some (.string ⟨a1.toArray⟩) := f1 0 _ rfl
        have y0 : wr.cell? ⟨pb2, o2 + k * 6, none⟩ = some (.string ⟨a2.toArray⟩) := f2 0 _ rfl
        have x1 : wr.cell? ⟨pb1, o1 + k * 6 + 1, none⟩ = some (.string ⟨b1.toArray⟩) := f1 1 _ rfl
        have y1 : wr.cell? ⟨pb2, o2 + k * 6 + 1, none⟩ = some (.string ⟨b2.toArray⟩) := f2 1 _ rfl
        have x2 : wr.cell? ⟨pb1, o1 + k * 6 + 2, none⟩ = some (.int .i64 r1) := f1 2 _ rfl
        have y2 : wr.cell? ⟨pb2, o2 + k * 6 + 2, none⟩ = some (.int .i64 r2) := f2 2 _ rfl
        have x3 : wr.cell? ⟨pb1, o1 + k * 6 + 3, none⟩ = some (.int .i64 p1) := f1 3 _ rfl
        have y3 : wr.cell? ⟨pb2, o2 + k * 6 + 3, none⟩ = some (.int .i64 p2) := f2 3 _ rfl
        have x4 : wr.cell? ⟨pb1, o1 + k * 6 + 4, none⟩ = some (.int .i64 q1) := f1 4 _ rfl
        have y4 : wr.cell? ⟨pb2, o2 + k * 6 + 4, none⟩ = some (.int .i64 q2) := f2 4 _ rfl
        have x5 : wr.cell? ⟨pb1, o1 + k * 6 + 5, none⟩ = some (.int .i64 t1) := f1 5 _ rfl
        have y5 : wr.cell? ⟨pb2, o2 + k * 6 + 5, none⟩ = some (.int .i64 t2) := f2 5 _ rfl
        have G1 := Lib.hid g1; have G2 := Lib.hid g2
        clear d1 d2 f1 f2 hx1 hx2 hk1 hk2 g1 g2
        have gk : (k : Int) < (n1 : Int) := by omega
        by_cases s0 : a1 = a2
        case neg =>
          have hd : decide (L1 = L2) = false := by
            rw [decide_eq_false_iff_not]; intro e
            have h := G1.out
            rw [e, G2.out] at h
            cases h
            exact s0 rfl
          have HD := Lib.hid hd
          have hb : (a1 == a2) = false := by rw [beq_eq_false_iff_ne]; exact s0
          clear hd s0 G1 G2
          go_wp2_with fail
          go_region
          all_goals
            go_wp2_with fail
            exact FIN.out _ _ HD.out I2.out.drew
        subst s0
        by_cases s1 : b1 = b2
        case neg =>
          have hd : decide (L1 = L2) = false := by
            rw [decide_eq_false_iff_not]; intro e
            have h := G1.out
            rw [e, G2.out] at h
            cases h
            exact s1 rfl
          have HD := Lib.hid hd
          have hb : (b1 == b2) = false := by rw [beq_eq_false_iff_ne]; exact s1
          clear hd s1 G1 G2
          go_wp2_with fail
          go_region
          all_goals
            go_wp2_with fail
            exact FIN.out _ _ HD.out I2.out.drew
        subst s1
        by_cases s2 : r1 = r2
        case neg =>
          have hd : decide (L1 = L2) = false := by
            rw [decide_eq_false_iff_not]; intro e
            have h := G1.out
            rw [e, G2.out] at h
            cases h
            exact s2 rfl
          have HD := Lib.hid hd
          have hb : (r1 == r2) = false := by rw [beq_eq_false_iff_ne]; exact s2
          clear hd s2 G1 G2
          go_wp2_with fail
          go_region
          all_goals
            go_wp2_with fail
            exact FIN.out _ _ HD.out I2.out.drew
        subst s2
        by_cases s3 : p1 = p2
        case neg =>
          have hd : decide (L1 = L2) = false := by
            rw [decide_eq_false_iff_not]; intro e
            have h := G1.out
            rw [e, G2.out] at h
            cases h
            exact s3 rfl
          have HD := Lib.hid hd
          have hb : (p1 == p2) = false := by rw [beq_eq_false_iff_ne]; exact s3
          clear hd s3 G1 G2
          go_wp2_with fail
          go_region
          all_goals
            go_wp2_with fail
            exact FIN.out _ _ HD.out I2.out.drew
        subst s3
        by_cases s4 : q1 = q2
        case neg =>
          have hd : decide (L1 = L2) = false := by
            rw [decide_eq_false_iff_not]; intro e
            have h := G1.out
            rw [e, G2.out] at h
            cases h
            exact s4 rfl
          have HD := Lib.hid hd
          have hb : (q1 == q2) = false := by rw [beq_eq_false_iff_ne]; exact s4
          clear hd s4 G1 G2
          go_wp2_with fail
          go_region
          all_goals
            go_wp2_with fail
            exact FIN.out _ _ HD.out I2.out.drew
        subst s4
        by_cases s5 : t1 = t2
        case neg =>
          have hd : decide (L1 = L2) = false := by
            rw [decide_eq_false_iff_not]; intro e
            have h := G1.out
            rw [e, G2.out] at h
            cases h
            exact s5 rfl
          have HD := Lib.hid hd
          have hb : (t1 == t2) = false := by rw [beq_eq_false_iff_ne]; exact s5
          clear hd s5 G1 G2
          go_wp2_with fail
          go_region
          all_goals
            go_wp2_with fail
            exact FIN.out _ _ HD.out I2.out.drew
        subst s5
        have J := Lib.hid (take_same I1.out G1.out G2.out)
        go_wp2_with fail
        go_region
        all_goals
          go_wp2_with fail
          exact ⟨⟨k + 1, by congr 1, by omega, J, Lib.hid I2.out.drew⟩, by simp [intOf]; omega⟩
      · have hek : k = n1 := by omega
        have hd : decide (L1 = L2) = true := by
          rw [decide_eq_true_eq]
          have h := I1.out
          rw [List.take_of_length_le (by rw [E1.out]; omega), List.take_of_length_le (by rw [E2.out]; omega)] at h
          exact h
        have HD := Lib.hid hd
        have gk : ¬ (k : Int) < (n1 : Int) := by omega
        clear hd hek I1
        go_wp2_with fail
        exact FIN.out _ _ HD.out I2.out
  · have hd : decide (L1 = L2) = false := by rw [decide_eq_false_iff_not]; intro e; rw [e] at e1; omega
    have HD := Lib.hid hd
    have hne : ((n1 : Int) == (n2 : Int)) = false := by rw [beq_eq_false_iff_ne]; omega
    clear hd e1 e2
    go_enter Tryz.func39, Tryz.ntmps39
    go_wp2_with fail
    exact FIN.out _ _ HD.out (Below.refl _ _)
end Go.Proofs.YtfihdbnecepmfaaGreatDoor
