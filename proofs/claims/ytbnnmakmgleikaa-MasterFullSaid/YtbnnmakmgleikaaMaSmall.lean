/-
  Is a number, a period, an order, a record right: what the landed master answers.
-/
import Derived.Test.YtbnnmakmgleikaaMaRow
import Derived.Test.YtbnnmakmgleikaaShelf
import Derived.Test.YtbnnmakmgleikaaBoxKit2
import Derived.Deep.RegionHeld3
import Derived.Deep.DeepCutAuto
set_option linter.unusedVariables false
namespace Go.Proofs.Ytbnnmakmgleikaa
open Go.RowKit

set_option maxHeartbeats 1600000 in
theorem from_any (a n b : Int) (w : World) : Calls Try.prog 41 #[.int .i64 a, .int .i64 n, .int .i64 b] w (SameM (.bool (decide (a ≤ n ∧ n ≤ b))) w) := by
  obtain ⟨Q, hQ⟩ : ∃ Q, SameM (.bool (decide (a ≤ n ∧ n ≤ b))) w = Q := ⟨_, rfl⟩
  rw [hQ]
  have F : Hid (∀ x : Bool, (x = true ↔ (a ≤ n ∧ n ≤ b)) → Q (.returned (.bool x)) w) := Lib.hid (fun x h => by
    rw [← hQ]
    refine ⟨?_, rfl⟩
    have : decide (a ≤ n ∧ n ≤ b) = x := by rw [Bool.eq_iff_iff, decide_eq_true_eq, h]
    rw [this])
  clear hQ
  by_cases h1 : a ≤ n
  · by_cases h2 : n ≤ b
    · go_enter Try.func41, Try.ntmps41
      go_wp2_with fail
      exact F.out _ ⟨fun _ => ⟨h1, h2⟩, fun _ => rfl⟩
    · go_enter Try.func41, Try.ntmps41
      go_wp2_with fail
      exact F.out _ ⟨fun h => (by cases h), fun h => (by have := h.2; omega)⟩
  · go_enter Try.func41, Try.ntmps41
    go_wp2_with fail
    exact F.out _ ⟨fun h => (by cases h), fun h => (by have := h.1; omega)⟩
set_option maxHeartbeats 1600000 in
theorem isid_any (n : Int) (w : World) : Calls Try.prog 25 #[.int .i64 n] w (SameM (.bool (PMa.isId n)) w) := by
  obtain ⟨Q, hQ⟩ : ∃ Q, SameM (.bool (PMa.isId n)) w = Q := ⟨_, rfl⟩
  rw [hQ]
  have F : Hid (Q (.returned (.bool (PMa.isId n))) w) := Lib.hid (by rw [← hQ]; exact ⟨rfl, rfl⟩)
  have C := Lib.hid (show Calls Try.prog 41 #[.int .i64 1, .int .i64 n, .int .i64 2147483647] w (SameM (.bool (PMa.isId n)) w) from from_any 1 n 2147483647 w)
  clear hQ
  go_enter Try.func25, Try.ntmps25
  go_wp2_with (go_at_call 41; refine C.out.mono ?_)
  rintro e w1 ⟨rfl, rfl⟩
  go_wp2_with fail
  exact F.out
set_option maxHeartbeats 1600000 in
theorem isper_any (n : Int) (w : World) : Calls Try.prog 28 #[.int .i64 n] w (SameM (.bool (PMa.isPer n)) w) := by
  obtain ⟨Q, hQ⟩ : ∃ Q, SameM (.bool (PMa.isPer n)) w = Q := ⟨_, rfl⟩
  rw [hQ]
  have F : Hid (Q (.returned (.bool (PMa.isPer n))) w) := Lib.hid (by rw [← hQ]; exact ⟨rfl, rfl⟩)
  have C := Lib.hid (show Calls Try.prog 41 #[.int .i64 22800, .int .i64 n, .int .i64 35999] w (SameM (.bool (PMa.isPer n)) w) from from_any 22800 n 35999 w)
  clear hQ
  go_enter Try.func28, Try.ntmps28
  go_wp2_with (go_at_call 41; refine C.out.mono ?_)
  rintro e w1 ⟨rfl, rfl⟩
  go_wp2_with fail
  exact F.out
theorem box4 {w : World} {H : Nat} {a b c d : Value} (h : Box w H [a, b, c, d]) : w.cell? ⟨H, 0, none⟩ = some a ∧ w.cell? ⟨H, 1, none⟩ = some b ∧ w.cell? ⟨H, 2, none⟩ = some c ∧ w.cell? ⟨H, 3, none⟩ = some d := ⟨h.c 0 rfl, h.c 1 rfl, h.c 2 rfl, h.c 3 rfl⟩
set_option maxHeartbeats 3200000 in
theorem isord_any (o : PMa.Ord) (w : World) : Calls Try.prog 29 #[.agg #[.int .i64 o.cred, .int .i64 o.prio, .int .i64 o.claim, .int .i64 o.bal]] w (FlagM (PMa.isOrd o) w) := by
  obtain ⟨Q, hQ⟩ : ∃ Q, FlagM (PMa.isOrd o) w = Q := ⟨_, rfl⟩
  rw [hQ]
  obtain ⟨a, b, c, d⟩ := o
  obtain ⟨x1, h1⟩ : ∃ x, decide (1 ≤ a ∧ a ≤ 999) = x := ⟨_, rfl⟩
  obtain ⟨x2, h2⟩ : ∃ x, decide (1 ≤ b ∧ b ≤ 999) = x := ⟨_, rfl⟩
  obtain ⟨x3, h3⟩ : ∃ x, decide (1 ≤ c ∧ c ≤ 1099511627776) = x := ⟨_, rfl⟩
  obtain ⟨x4, h4⟩ : ∃ x, decide (1 ≤ d ∧ d ≤ 1099511627776) = x := ⟨_, rfl⟩
  obtain ⟨w1, hw1, XB, b1⟩ : ∃ w1, w.alloc (.cells #[.int .i64 a, .int .i64 b, .int .i64 c, .int .i64 d] 35) = w1 ∧ Box w1 w.heap.size [.int .i64 a, .int .i64 b, .int .i64 c, .int .i64 d] ∧ Below w.heap.size w w1 := ⟨_, rfl, Box.new _ _ [.int .i64 a, .int .i64 b, .int .i64 c, .int .i64 d], (Below.refl _ _).alloc (Nat.le_refl _) _⟩
  have F : Hid (Q (.returned (.bool (((x1 && x2) && x3) && x4))) w1) := Lib.hid (by
    rw [← hQ, ← h1, ← h2, ← h3, ← h4]
    exact ⟨rfl, b1⟩)
  obtain ⟨y0, y1, y2, y3⟩ := box4 XB
  have hs := XB.1
  have C1 := Lib.hid (by have h := from_any 1 a 999 w1; rw [h1] at h; exact h)
  have C2 := Lib.hid (by have h := from_any 1 b 999 w1; rw [h2] at h; exact h)
  have C3 := Lib.hid (by have h := from_any 1 c 1099511627776 w1; rw [h3] at h; exact h)
  have C4 := Lib.hid (by have h := from_any 1 d 1099511627776 w1; rw [h4] at h; exact h)
  have HW1 := Lib.hid hw1
  clear hQ h1 h2 h3 h4 hw1 XB b1
  go_enter Try.func29, Try.ntmps29
  go_upto_region 1 with fail
  rw [HW1.out]
  clear HW1
  cases x1 with
  | false =>
    go_wp2_with (go_at_call 41; refine C1.out.mono ?_)
    rintro e w2 ⟨rfl, rfl⟩
    go_wp2_with fail
    exact F.out
  | true =>
    go_wp2_with (go_at_call 41; refine C1.out.mono ?_)
    rintro e w2 ⟨rfl, rfl⟩
    cases x2 with
    | false =>
      go_wp2_with (go_at_call 41; refine C2.out.mono ?_)
      rintro e w2 ⟨rfl, rfl⟩
      go_wp2_with fail
      exact F.out
    | true =>
      go_wp2_with (go_at_call 41; refine C2.out.mono ?_)
      rintro e w2 ⟨rfl, rfl⟩
      cases x3 with
      | false =>
        go_wp2_with (go_at_call 41; refine C3.out.mono ?_)
        rintro e w2 ⟨rfl, rfl⟩
        go_wp2_with fail
        exact F.out
      | true =>
        go_wp2_with (go_at_call 41; refine C3.out.mono ?_)
        rintro e w2 ⟨rfl, rfl⟩
        go_wp2_with (go_at_call 41; refine C4.out.mono ?_)
        rintro e w2 ⟨rfl, rfl⟩
        go_wp2_with fail
        exact F.out
def rcdV (r : PMa.Rcd) : Value := .agg #[.int .i64 r.frm, .int .i64 r.ctr, .int .i64 r.base, .int .i64 r.bonus, .int .i64 r.hours, .int .i64 r.days, .bool r.lead]
def ins4 (r : PMa.Rcd) : List Int := [r.base, r.bonus, r.hours, r.days]
theorem isRcd_all {r : PMa.Rcd} (h1 : PMa.isPer r.frm = true) (h2 : decide (0 ≤ r.ctr ∧ r.ctr ≤ 999) = true) (h : ∀ j, j < 4 → PMa.isIn ((ins4 r).getD j 0) = true) : PMa.isRcd r = true := by
  have a := h 0 (by omega); have b := h 1 (by omega); have c := h 2 (by omega); have d := h 3 (by omega)
  unfold PMa.isRcd
  rw [h1, h2]
  simp only [ins4, List.getD_cons_zero, List.getD_cons_succ] at a b c d
  rw [a, b, c, d]; rfl
theorem isRcd_not {r : PMa.Rcd} {j : Nat} (hj : j < 4) (h : PMa.isIn ((ins4 r).getD j 0) = false) : PMa.isRcd r = false := by
  unfold PMa.isRcd
  rcases j with _ | _ | _ | _ | j
  · simp only [ins4, List.getD_cons_zero] at h; rw [h]; simp
  · simp only [ins4, List.getD_cons_zero, List.getD_cons_succ] at h; rw [h]; simp
  · simp only [ins4, List.getD_cons_zero, List.getD_cons_succ] at h; rw [h]; simp
  · simp only [ins4, List.getD_cons_zero, List.getD_cons_succ] at h; rw [h]; simp
  · omega
set_option maxHeartbeats 6400000 in
theorem isright_any (r : PMa.Rcd) (w : World) : Calls Try.prog 26 #[.agg #[.int .i64 r.frm, .int .i64 r.ctr, .int .i64 r.base, .int .i64 r.bonus, .int .i64 r.hours, .int .i64 r.days, .bool r.lead]] w (FlagM (PMa.isRcd r) w) := by
  obtain ⟨Q, hQ⟩ : ∃ Q, FlagM (PMa.isRcd r) w = Q := ⟨_, rfl⟩
  rw [hQ]
  have F : Hid (∀ x w', PMa.isRcd r = x → Below w.heap.size w w' → Q (.returned (.bool x)) w') := Lib.hid (fun x w' h hb => by rw [← hQ, ← h]; exact ⟨rfl, hb⟩)
  obtain ⟨w1, hw1, XB, b1⟩ : ∃ w1, w.alloc (.cells #[.int .i64 r.frm, .int .i64 r.ctr, .int .i64 r.base, .int .i64 r.bonus, .int .i64 r.hours, .int .i64 r.days, .bool r.lead] 47) = w1 ∧ Box w1 w.heap.size [.int .i64 r.frm, .int .i64 r.ctr, .int .i64 r.base, .int .i64 r.bonus, .int .i64 r.hours, .int .i64 r.days, .bool r.lead] ∧ Below w.heap.size w w1 := ⟨_, rfl, Box.new _ _ [.int .i64 r.frm, .int .i64 r.ctr, .int .i64 r.base, .int .i64 r.bonus, .int .i64 r.hours, .int .i64 r.days, .bool r.lead], (Below.refl _ _).alloc (Nat.le_refl _) _⟩
  obtain ⟨y0, y1, y2, y3, y4, y5, y6⟩ := box7 XB
  have hs := XB.1
  have B1 := Lib.hid b1; have HW1 := Lib.hid hw1
  obtain ⟨x1, h1⟩ : ∃ x, PMa.isPer r.frm = x := ⟨_, rfl⟩
  obtain ⟨x2, h2⟩ : ∃ x, decide (0 ≤ r.ctr ∧ r.ctr ≤ 999) = x := ⟨_, rfl⟩
  have C1 := Lib.hid (by have h := isper_any r.frm w1; rw [h1] at h; exact h)
  have C2 := Lib.hid (by have h := from_any 0 r.ctr 999 w1; rw [h2] at h; exact h)
  have H1 := Lib.hid h1; have H2 := Lib.hid h2
  clear hQ hw1 XB b1 h1 h2
  go_enter Try.func26, Try.ntmps26
  go_upto_region 1 with fail
  rw [HW1.out]
  clear HW1
  cases x1 with
  | false =>
    have HN : Hid (PMa.isRcd r = false) := Lib.hid (by unfold PMa.isRcd; rw [H1.out]; simp)
    go_wp2_with (go_at_call 28; refine C1.out.mono ?_)
    rintro e w2 ⟨rfl, rfl⟩
    go_wp2_with fail
    exact F.out _ _ HN.out B1.out
  | true =>
    go_wp2_with (go_at_call 28; refine C1.out.mono ?_)
    rintro e w2 ⟨rfl, rfl⟩
    cases x2 with
    | false =>
      have HN : Hid (PMa.isRcd r = false) := Lib.hid (by unfold PMa.isRcd; rw [H1.out, H2.out]; simp)
      go_wp2_with (go_at_call 41; refine C2.out.mono ?_)
      rintro e w2 ⟨rfl, rfl⟩
      go_wp2_with fail
      exact F.out _ _ HN.out B1.out
    | true =>
      go_wp2_with (go_at_call 41; refine C2.out.mono ?_)
      rintro e w2 ⟨rfl, rfl⟩
      obtain ⟨w3, hw3, XC, b3⟩ : ∃ w3, w2.alloc (.cells #[.int .i64 r.base, .int .i64 r.bonus, .int .i64 r.hours, .int .i64 r.days] 3) = w3 ∧ Box w3 w2.heap.size [.int .i64 r.base, .int .i64 r.bonus, .int .i64 r.hours, .int .i64 r.days] ∧ Below w2.heap.size w2 w3 := ⟨_, rfl, Box.new _ _ [.int .i64 r.base, .int .i64 r.bonus, .int .i64 r.hours, .int .i64 r.days], (Below.refl _ _).alloc (Nat.le_refl _) _⟩
      have B3 := Lib.hid (below_step B1.out b3)
      have HXC := Lib.hid XC
      obtain ⟨N, hN⟩ : ∃ N, w2.heap.size = N := ⟨_, rfl⟩
      have HW3 := Lib.hid hw3; have HN := Lib.hid hN
      rw [hN] at HXC
      clear XC b3 hw3 hN
      go_upto_region 4 with fail
      (try rw [HW3.out])
      (try rw [HN.out])
      go_loopw [29] (fun i wr => ∃ k : Nat, i = .int .i64 k ∧ k ≤ 4 ∧ Hid (∀ j, j < k → PMa.isIn ((ins4 r).getD j 0) = true) ∧ wr = w3) (fun i _ => 4 - (intOf i).toNat)
      case atStart => exact ⟨0, rfl, Nat.zero_le _, Lib.hid (fun j h => absurd h (Nat.not_lt_zero _)), rfl⟩
      case round =>
        obtain ⟨k, rfl, hk, J, rfl⟩ := hrel
        by_cases hlt : k < 4
        · have gk : (k : Int) < 4 := by omega
          have gk0 : (0 : Int) ≤ (k : Int) := by omega
          obtain ⟨z, hz, hc⟩ : ∃ z, (ins4 r).getD k 0 = z ∧ wr.cell? ⟨N, k, none⟩ = some (.int .i64 z) := by
            obtain ⟨z0, z1, z2, z3⟩ := box4 HXC.out
            rcases k with _ | _ | _ | _ | k
            · exact ⟨_, rfl, z0⟩
            · exact ⟨_, rfl, z1⟩
            · exact ⟨_, rfl, z2⟩
            · exact ⟨_, rfl, z3⟩
            · omega
          have hsc := HXC.out.1
          obtain ⟨x, hx⟩ : ∃ x, PMa.isIn z = x := ⟨_, rfl⟩
          have C := Lib.hid (show Calls Try.prog 41 #[.int .i64 0, .int .i64 z, .int .i64 1099511627776] wr (SameM (.bool x) wr) by rw [← hx]; exact from_any 0 z 1099511627776 wr)
          have HX : Hid (PMa.isIn ((ins4 r).getD k 0) = x) := Lib.hid (by rw [hz]; exact hx)
          clear hz hx
          go_wp2_with (go_at_call 41; refine C.out.mono ?_)
          rintro e w4 ⟨rfl, rfl⟩
          cases x with
          | false =>
            have HNo : Hid (PMa.isRcd r = false) := Lib.hid (isRcd_not hlt HX.out)
            go_wp2_with fail
            exact F.out _ _ HNo.out B3.out
          | true =>
            have HJ : Hid (∀ j, j < k + 1 → PMa.isIn ((ins4 r).getD j 0) = true) := Lib.hid (fun j hj => by
              rcases Nat.lt_or_ge j k with h | h
              · exact J.out j h
              · obtain rfl : j = k := by omega
                exact HX.out)
            go_wp2_with fail
            exact ⟨⟨k + 1, by congr 1, by omega, HJ, trivial⟩, by simp [intOf]; omega⟩
        · obtain rfl : k = 4 := by omega
          have HY : Hid (PMa.isRcd r = true) := Lib.hid (isRcd_all H1.out H2.out J.out)
          go_wp2_with fail
          exact F.out _ _ HY.out B3.out
end Go.Proofs.Ytbnnmakmgleikaa
