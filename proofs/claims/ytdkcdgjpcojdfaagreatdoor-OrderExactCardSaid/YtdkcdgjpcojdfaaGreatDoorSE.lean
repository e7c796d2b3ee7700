/-
  What the library's slices.Equal answers for rules and for expressions: whether the lists are the same.
  Slices of ints that read as lists; rows of ints that a call has made; append of such slices.
  What the library's slices.EqualFunc answers for rules and places: whether the places are the rules' roots, one by one.
-/
import Derived.Test.YtdkcdgjpcojdfaaGreatDoorShowLinesG
import Derived.Deep.RegionHeld3
import Derived.Test.YtdkcdgjpcojdfaaGreatDoorBase
import Derived.WalkKit
import Derived.Lib.Hide
import Derived.OwnWalk
import Derived.Laws.AppendOwnNone
import Derived.Laws.OwnMore

set_option linter.unusedVariables false
namespace Go.Proofs.YtdkcdgjpcojdfaaGreatDoor
open Go.RowKit
open PCheck (Xp)

theorem take_same {α : Type} {l m : List α} {k : Nat} {x : α} (h : l.take k = m.take k) (hl : l[k]? = some x) (hm : m[k]? = some x) : l.take (k + 1) = m.take (k + 1) := by
  obtain ⟨h1, rfl⟩ := List.getElem?_eq_some_iff.1 hl
  obtain ⟨h2, h3⟩ := List.getElem?_eq_some_iff.1 hm
  rw [List.take_succ_eq_append_getElem h1, List.take_succ_eq_append_getElem h2, h, h3]
def BoolAns (b : Bool) (w : World) (e : Ending) (w' : World) : Prop := e = .returned (.bool b) ∧ Below w.heap.size w w'
set_option maxHeartbeats 6400000 in
set_option maxRecDepth 100000 in
theorem kequal_rules {w : World} {A1 A2 : Option Addr} {n1 n2 c1 c2 : Nat} {L1 L2 : List Rw} (h1 : SlX rlR w A1 n1 L1) (h2 : SlX rlR w A2 n2 L2) (hn1 : n1 ≤ 1000000) (hn2 : n2 ≤ 1000000) :
    Calls Tryz.prog 58 #[.slice A1 n1 c1, .slice A2 n2 c2] w (BoolAns (decide (L1 = L2)) w) := by
  obtain ⟨Q, hQ⟩ : ∃ Q, BoolAns (decide (L1 = L2)) w = Q := ⟨_, rfl⟩
  rw [hQ]
  have FIN : Hid (∀ (b : Bool) (w' : World), decide (L1 = L2) = b → Below w.heap.size w w' → Q (.returned (.bool b)) w') := Lib.hid (fun b w' e a => by rw [← hQ]; exact ⟨by rw [e], a⟩)
  have e1 : L1.length = n1 := h1.1
  have e2 : L2.length = n2 := h2.1
  have H1 := Lib.hid h1; have H2 := Lib.hid h2; have E1 := Lib.hid e1; have E2 := Lib.hid e2
  clear hQ h1 h2
  by_cases hn : n1 = n2
  · subst hn
    clear e1 e2
    go_enter Tryz.func58, Tryz.ntmps58
    go_wp2_with fail
    go_loopw [13] (fun i wx => ∃ k : Nat, i = .int .i64 k ∧ k ≤ n1 ∧ Hid (L1.take k = L2.take k) ∧ Hid (Below w.heap.size w wx)) (fun i _ => n1 - (intOf i).toNat)
    case atStart => exact ⟨0, rfl, Nat.zero_le _, Lib.hid rfl, Lib.hid (Below.refl _ _)⟩
    case round =>
      obtain ⟨k, rfl, hk, I1, I2⟩ := hrel
      by_cases hkn : k < n1
      · have hk1 : k < L1.length := by rw [E1.out]; exact hkn
        have hk2 : k < L2.length := by rw [E2.out]; exact hkn
        obtain ⟨⟨a1, b1, r1⟩, hx1⟩ : ∃ r, L1[k] = r := ⟨_, rfl⟩
        obtain ⟨⟨a2, b2, r2⟩, hx2⟩ : ∃ r, L2[k] = r := ⟨_, rfl⟩
        have g1 : L1[k]? = some (a1, b1, r1) := by rw [List.getElem?_eq_getElem hk1, hx1]
        have g2 : L2[k]? = some (a2, b2, r2) := by rw [List.getElem?_eq_getElem hk2, hx2]
        obtain ⟨pb1, o1, rfl, d1⟩ := (H1.out.on I2.out).at hkn
        obtain ⟨pb2, o2, rfl, d2⟩ := (H2.out.on I2.out).at hkn
        have f1 := d1 k hk1
        have f2 := d2 k hk2
        rw [hx1] at f1
        rw [hx2] at f2
        have x0 : wr.cell? ⟨pb1, o1 + k * 3, none⟩ = some (.string ⟨a1.toArray⟩) := f1 0 _ rfl
        have y0 : wr.cell? ⟨pb2, o2 + k * 3, none⟩ = some (.string ⟨a2.toArray⟩) := f2 0 _ rfl
        have x1 : wr.cell? ⟨pb1, o1 + k * 3 + 1, none⟩ = some (.string ⟨b1.toArray⟩) := f1 1 _ rfl
        have y1 : wr.cell? ⟨pb2, o2 + k * 3 + 1, none⟩ = some (.string ⟨b2.toArray⟩) := f2 1 _ rfl
        have x2 : wr.cell? ⟨pb1, o1 + k * 3 + 2, none⟩ = some (.int .i64 r1) := f1 2 _ rfl
        have y2 : wr.cell? ⟨pb2, o2 + k * 3 + 2, none⟩ = some (.int .i64 r2) := f2 2 _ rfl
        have G1 := Lib.hid g1; have G2 := Lib.hid g2
        clear d1 d2 f1 f2 hx1 hx2 hk1 hk2 g1 g2
        have gk : (k : Int) < (n1 : Int) := by omega
        by_cases s0 : a1 = a2
        case neg =>
          have hd : decide (L1 = L2) = false := by
            rw [decide_eq_false_iff_not]; intro e
            have h := G1.out
            rw [e, G2.out] at h
            cases h
            exact s0 rfl
          have HD := Lib.hid hd
          have hb : (a1 == a2) = false := by rw [beq_eq_false_iff_ne]; exact s0
          clear hd s0 G1 G2
          go_wp2_with fail
          go_region
          all_goals
            go_wp2_with fail
            exact FIN.out _ _ HD.out I2.out.drew
        subst s0
        by_cases s1 : b1 = b2
        case neg =>
          have hd : decide (L1 = L2) = false := by
            rw [decide_eq_false_iff_not]; intro e
            have h := G1.out
            rw [e, G2.out] at h
            cases h
            exact s1 rfl
          have HD := Lib.hid hd
          have hb : (b1 == b2) = false := by rw [beq_eq_false_iff_ne]; exact s1
          clear hd s1 G1 G2
          go_wp2_with fail
          go_region
          all_goals
            go_wp2_with fail
            exact FIN.out _ _ HD.out I2.out.drew
        subst s1
        by_cases s2 : r1 = r2
        case neg =>
          have hd : decide (L1 = L2) = false := by
            rw [decide_eq_false_iff_not]; intro e
            have h := G1.out
            rw [e, G2.out] at h
            cases h
            exact s2 rfl
          have HD := Lib.hid hd
          have hb : (r1 == r2) = false := by rw [beq_eq_false_iff_ne]; exact s2
          clear hd s2 G1 G2
          go_wp2_with fail
          go_region
          all_goals
            go_wp2_with fail
            exact FIN.out _ _ HD.out I2.out.drew
        subst s2
        have J := Lib.hid (take_same I1.out G1.out G2.out)
        go_wp2_with fail
        go_region
        all_goals
          go_wp2_with fail
          exact ⟨⟨k + 1, by congr 1, by omega, J, Lib.hid I2.out.drew⟩, by simp [intOf]; omega⟩
      · have hek : k = n1 := by omega
        have hd : decide (L1 = L2) = true := by
          rw [decide_eq_true_eq]
          have h := I1.out
          rw [List.take_of_length_le (by rw [E1.out]; omega), List.take_of_length_le (by rw [E2.out]; omega)] at h
          exact h
        have HD := Lib.hid hd
        have gk : ¬ (k : Int) < (n1 : Int) := by omega
        clear hd hek I1
        go_wp2_with fail
        exact FIN.out _ _ HD.out I2.out
  · have hd : decide (L1 = L2) = false := by rw [decide_eq_false_iff_not]; intro e; rw [e] at e1; omega
    have HD := Lib.hid hd
    have hne : ((n1 : Int) == (n2 : Int)) = false := by rw [beq_eq_false_iff_ne]; omega
    clear hd e1 e2
    go_enter Tryz.func58, Tryz.ntmps58
    go_wp2_with fail
    exact FIN.out _ _ HD.out (Below.refl _ _)
set_option maxHeartbeats 6400000 in
set_option maxRecDepth 100000 in
theorem kequal_exprs {w : World} {A1 A2 : Option Addr} {n1 n2 c1 c2 : Nat} {L1 L2 : List Xp} (h1 : SlX xpR w A1 n1 L1) (h2 : SlX xpR w A2 n2 L2) (hn1 : n1 ≤ 1000000) (hn2 : n2 ≤ 1000000) :
    Calls Tryz.prog 59 #[.slice A1 n1 c1, .slice A2 n2 c2] w (BoolAns (decide (L1 = L2)) w) := by
  obtain ⟨Q, hQ⟩ : ∃ Q, BoolAns (decide (L1 = L2)) w = Q := ⟨_, rfl⟩
  rw [hQ]
  have FIN : Hid (∀ (b : Bool) (w' : World), decide (L1 = L2) = b → Below w.heap.size w w' → Q (.returned (.bool b)) w') := Lib.hid (fun b w' e a => by rw [← hQ]; exact ⟨by rw [e], a⟩)
  have e1 : L1.length = n1 := h1.1
  have e2 : L2.length = n2 := h2.1
  have H1 := Lib.hid h1; have H2 := Lib.hid h2; have E1 := Lib.hid e1; have E2 := Lib.hid e2
  clear hQ h1 h2
  by_cases hn : n1 = n2
  · subst hn
    clear e1 e2
    go_enter Tryz.func59, Tryz.ntmps59
    go_wp2_with fail
    go_loopw [13] (fun i wx => ∃ k : Nat, i = .int .i64 k ∧ k ≤ n1 ∧ Hid (L1.take k = L2.take k) ∧ Hid (Below w.heap.size w wx)) (fun i _ => n1 - (intOf i).toNat)
    case atStart => exact ⟨0, rfl, Nat.zero_le _, Lib.hid rfl, Lib.hid (Below.refl _ _)⟩
    case round =>
      obtain ⟨k, rfl, hk, I1, I2⟩ := hrel
      by_cases hkn : k < n1
      · have hk1 : k < L1.length := by rw [E1.out]; exact hkn
        have hk2 : k < L2.length := by rw [E2.out]; exact hkn
        obtain ⟨⟨a1, b1, r1, p1, q1, t1⟩, hx1⟩ : ∃ r, L1[k] = r := ⟨_, rfl⟩
        obtain ⟨⟨a2, b2, r2, p2, q2, t2⟩, hx2⟩ : ∃ r, L2[k] = r := ⟨_, rfl⟩
        have g1 : L1[k]? = some ⟨a1, b1, r1, p1, q1, t1⟩ := by rw [List.getElem?_eq_getElem hk1, hx1]
        have g2 : L2[k]? = some ⟨a2, b2, r2, p2, q2, t2⟩ := by rw [List.getElem?_eq_getElem hk2, hx2]
        obtain ⟨pb1, o1, rfl, d1⟩ := (H1.out.on I2.out).at hkn
        obtain ⟨pb2, o2, rfl, d2⟩ := (H2.out.on I2.out).at hkn
        have f1 := d1 k hk1
        have f2 := d2 k hk2
        rw [hx1] at f1
        rw [hx2] at f2
        have x0 : wr.cell? ⟨pb1, o1 + k * 6, none⟩ = some (.string ⟨a1.toArray⟩) := f1 0 _ rfl
        have y0 : wr.cell? ⟨pb2, o2 + k * 6, none⟩ = some (.string ⟨a2.toArray⟩) := f2 0 _ rfl
        have x1 : wr.cell? ⟨pb1, o1 + k * 6 + 1, none⟩ = some (.string ⟨b1.toArray⟩) := f1 1 _ rfl
        have y1 : wr.cell? ⟨pb2, o2 + k * 6 + 1, none⟩ = some (.string ⟨b2.toArray⟩) := f2 1 _ rfl
        have x2 : wr.cell? ⟨pb1, o1 + k * 6 + 2, none⟩ = some (.int .i64 r1) := f1 2 _ rfl
        have y2 : wr.cell? ⟨pb2, o2 + k * 6 + 2, none⟩ = some (.int .i64 r2) := f2 2 _ rfl
        have x3 : wr.cell? ⟨pb1, o1 + k * 6 + 3, none⟩ = some (.int .i64 p1) := f1 3 _ rfl
        have y3 : wr.cell? ⟨pb2, o2 + k * 6 + 3, none⟩ = some (.int .i64 p2) := f2 3 _ rfl
        have x4 : wr.cell? ⟨pb1, o1 + k * 6 + 4, none⟩ = some (.int .i64 q1) := f1 4 _ rfl
        have y4 : wr.cell? ⟨pb2, o2 + k * 6 + 4, none⟩ = some (.int .i64 q2) := f2 4 _ rfl
        have x5 : wr.cell? ⟨pb1, o1 + k * 6 + 5, none⟩ = some (.int .i64 t1) := f1 5 _ rfl
        have y5 : wr.cell? ⟨pb2, o2 + k * 6 + 5, none⟩ = some (.int .i64 t2) := f2 5 _ rfl
        have G1 := Lib.hid g1; have G2 := Lib.hid g2
        clear d1 d2 f1 f2 hx1 hx2 hk1 hk2 g1 g2
        have gk : (k : Int) < (n1 : Int) := by omega
        by_cases s0 : a1 = a2
        case neg =>
          have hd : decide (L1 = L2) = false := by
            rw [decide_eq_false_iff_not]; intro e
            have h := G1.out
            rw [e, G2.out] at h
            cases h
            exact s0 rfl
          have HD := Lib.hid hd
          have hb : (a1 == a2) = false := by rw [beq_eq_false_iff_ne]; exact s0
          clear hd s0 G1 G2
          go_wp2_with fail
          go_region
          all_goals
            go_wp2_with fail
            exact FIN.out _ _ HD.out I2.out.drew
        subst s0
        by_cases s1 : b1 = b2
        case neg =>
          have hd : decide (L1 = L2) = false := by
            rw [decide_eq_false_iff_not]; intro e
            have h := G1.out
            rw [e, G2.out] at h
            cases h
            exact s1 rfl
          have HD := Lib.hid hd
          have hb : (b1 == b2) = false := by rw [beq_eq_false_iff_ne]; exact s1
          clear hd s1 G1 G2
          go_wp2_with fail
          go_region
          all_goals
            go_wp2_with fail
            exact FIN.out _ _ HD.out I2.out.drew
        subst s1
        by_cases s2 : r1 = r2
        case neg =>
          have hd : decide (L1 = L2) = false := by
            rw [decide_eq_false_iff_not]; intro e
            have h := G1.out
            rw [e, G2.out] at h
            cases h
            exact s2 rfl
          have HD := Lib.hid hd
          have hb : (r1 == r2) = false := by rw [beq_eq_false_iff_ne]; exact s2
          clear hd s2 G1 G2
          go_wp2_with fail
          go_region
          all_goals
            go_wp2_with fail
            exact FIN.out _ _ HD.out I2.out.drew
        subst s2
        by_cases s3 : p1 = p2
        case neg =>
          have hd : decide (L1 = L2) = false := by
            rw [decide_eq_false_iff_not]; intro e
            have h := G1.out
            rw [e, G2.out] at h
            cases h
            exact s3 rfl
          have HD := Lib.hid hd
          have hb : (p1 == p2) = false := by rw [beq_eq_false_iff_ne]; exact s3
          clear hd s3 G1 G2
          go_wp2_with fail
          go_region
          all_goals
            go_wp2_with fail
            exact FIN.out _ _ HD.out I2.out.drew
        subst s3
        by_cases s4 : q1 = q2
        case neg =>
          have hd : decide (L1 = L2) = false := by
            rw [decide_eq_false_iff_not]; intro e
            have h := G1.out
            rw [e, G2.out] at h
            cases h
            exact s4 rfl
          have HD := Lib.hid hd
          have hb : (q1 == q2) = false := by rw [beq_eq_false_iff_ne]; exact s4
          clear hd s4 G1 G2
          go_wp2_with fail
          go_region
          all_goals
            go_wp2_with fail
            exact FIN.out _ _ HD.out I2.out.drew
        subst s4
        by_cases s5 : t1 = t2
        case neg =>
          have hd : decide (L1 = L2) = false := by
            rw [decide_eq_false_iff_not]; intro e
            have h := G1.out
            rw [e, G2.out] at h
            cases h
            exact s5 rfl
          have HD := Lib.hid hd
          have hb : (t1 == t2) = false := by rw [beq_eq_false_iff_ne]; exact s5
          clear hd s5 G1 G2
          go_wp2_with fail
          go_region
          all_goals
            go_wp2_with fail
            exact FIN.out _ _ HD.out I2.out.drew
        subst s5
        have J := Lib.hid (take_same I1.out G1.out G2.out)
        go_wp2_with fail
        go_region
        all_goals
          go_wp2_with fail
          exact ⟨⟨k + 1, by congr 1, by omega, J, Lib.hid I2.out.drew⟩, by simp [intOf]; omega⟩
      · have hek : k = n1 := by omega
        have hd : decide (L1 = L2) = true := by
          rw [decide_eq_true_eq]
          have h := I1.out
          rw [List.take_of_length_le (by rw [E1.out]; omega), List.take_of_length_le (by rw [E2.out]; omega)] at h
          exact h
        have HD := Lib.hid hd
        have gk : ¬ (k : Int) < (n1 : Int) := by omega
        clear hd hek I1
        go_wp2_with fail
        exact FIN.out _ _ HD.out I2.out
  · have hd : decide (L1 = L2) = false := by rw [decide_eq_false_iff_not]; intro e; rw [e] at e1; omega
    have HD := Lib.hid hd
    have hne : ((n1 : Int) == (n2 : Int)) = false := by rw [beq_eq_false_iff_ne]; omega
    clear hd e1 e2
    go_enter Tryz.func59, Tryz.ntmps59
    go_wp2_with fail
    exact FIN.out _ _ HD.out (Below.refl _ _)
end Go.Proofs.YtdkcdgjpcojdfaaGreatDoor

namespace Go.Proofs.YtdkcdgjpcojdfaaGreatDoor
open Go.RowKit

def cellsOfInts (l : List Int) : List Value := l.map (Value.int .i64)
theorem cellsOfInts_len (l : List Int) : (cellsOfInts l).length = l.length := by simp [cellsOfInts]
theorem cellsOfInts_get (l : List Int) (i : Nat) (h : i < l.length) : (cellsOfInts l)[i]? = some (.int .i64 (l.getD i 0)) := by simp [cellsOfInts, List.getD, h]
theorem cellsOfInts_app (a b : List Int) : cellsOfInts (a ++ b) = cellsOfInts a ++ cellsOfInts b := by simp [cellsOfInts]
def In64 (l : List Int) : Prop := ∀ i, i < l.length → -9223372036854775808 ≤ l.getD i 0 ∧ l.getD i 0 ≤ 9223372036854775807

theorem sl_of_own {w : World} {base n : Nat} {v : Value} {l : List Int} (h : w.ownsRow base 3 1 v n (cellsOfInts l)) (hs : In64 l) (hn : n ≤ 9223372036854775807) :
    ∃ a cap, v = .slice a n cap ∧ (a = none → cap = 0) ∧ n ≤ cap ∧ cap ≤ 9223372036854775807 ∧ Sl w a n l := by
  have hl : l.length = n := by have := h.1; rw [cellsOfInts_len] at this; omega
  rcases h.2 with ⟨rfl, rfl⟩ | ⟨g, cap, cur, rfl, _, _, h1, h2, _⟩
  · exact ⟨none, 0, rfl, fun _ => rfl, Nat.le_refl _, by omega, hl, fun i hi => by omega, by omega, .inl rfl⟩
  · unfold maxLen at h2
    refine ⟨_, cap, rfl, (fun e => by cases e), h1, by omega, hl, fun i hi => hs i (by omega), hn, .inr ⟨g, 0, rfl, fun i hi => ?_⟩⟩
    have hc := h.cells (g := g) rfl i _ (cellsOfInts_get l i (by omega))
    by_cases h0 : i = 0
    · subst h0; simpa [Addr.add] using hc
    · simpa [Addr.add, h0] using hc

theorem infoInt : (Tryz.prog.info? 3).map (fun i => (i.zero, i.size, i.bytes)) = some (some (.int .i64 0), 1, 8) := by kernel_rfl

theorem append_one {w : World} {ops : Array Oper} {rest : List Oper} {o : Oper} {a : Act} {Q : Exit → Act → World → Prop} (hgd : o.guard = none) (s x : Operand)
    (ho : o.op = .call { callee := .builtin .append, args := #[s, x], argTypes := #[36, 36] })
    (base : Nat) (v : Value) (n : Nat) (k : List Int) (d : Int) (hs : a.eval s = v) (hown : w.ownsRow base 3 1 v n (cellsOfInts k))
    (hx : a.eval x = .slice (some ⟨w.heap.size, 0, none⟩) 1 1) (hn : n + 1 ≤ 1000) (hbase : base ≤ w.heap.size)
    (h : ∀ v' w', w'.ownsRow base 3 1 v' (n + 1) (cellsOfInts (k ++ [d])) → Below base w w' → wpList Tryz.prog ops Q rest (a.put o.dst v') w') :
    wpList Tryz.prog ops Q (o :: rest) a (w.alloc (.cells #[.int .i64 d] 3)) := by
  obtain ⟨i0, hi, hz0, hz1, hz2⟩ := info_parts infoInt
  refine wpList_append_own _ hgd s x 36 ho base 3 i0 (.int .i64 0) 1 8 Tryz.underlying36 hi hz0 hz1 hz2 rfl (by decide) v n _ hs (hown.alloc _) ⟨w.heap.size, 0, none⟩ 1 1 [.int .i64 d] hx rfl ?_ (fun u hu => ?_) (by unfold maxLen; omega) (by omega) (by simp; omega) (fun v' w' ho' hg _ => h v' w' ?_ ?_)
  · intro j u hj
    match j, hj with
    | 0, hj => simp at hj; subst hj; simp [Addr.add]
  · simp at hu; subst hu; rfl
  · rw [cellsOfInts_app]; exact ho'
  · exact ((Below.refl _ _).alloc hbase _).grown hg (by simp; omega) (fun k hk => (hown.lt k hk).1)
end Go.Proofs.YtdkcdgjpcojdfaaGreatDoor

set_option linter.unusedVariables false
namespace Go.Proofs.YtdkcdgjpcojdfaaGreatDoor
open Go.RowKit
open PCheck (Xp)

theorem run_func {F : FuncId} {fn : Func} (hf : Tryz.prog.funcs[F]? = some fn) (hn : (fn.name == "runtime.NumGoroutine") = false) (hb : fn.body.isNone = false) (args : Array Value) (w : World) : (callFunc F args).run Tryz.prog w = .ok (.enter F args) w := by
  have h1 : ¬ fn.name = "runtime.NumGoroutine" := by simpa using hn
  have h2 : ¬ fn.body = none := by intro h; rw [h] at hb; cases hb
  unfold callFunc
  simp [go_sem, hf, h1, h2]
set_option maxHeartbeats 3200000 in
set_option maxRecDepth 100000 in
theorem kroot_is (a b : List UInt8) (r q : Int) (w : World) : Calls Tryz.prog 88 #[.agg #[.string ⟨a.toArray⟩, .string ⟨b.toArray⟩, .int .i64 r], .int .i64 q] w (BoolAns (decide (r = q)) w) := by
  obtain ⟨Q, hQ⟩ : ∃ Q, BoolAns (decide (r = q)) w = Q := ⟨_, rfl⟩
  rw [hQ]
  have FIN : Hid (∀ (c : Bool) (w' : World), decide (r = q) = c → Below w.heap.size w w' → Q (.returned (.bool c)) w') := Lib.hid (fun c w' e a => by rw [← hQ]; exact ⟨by rw [e], a⟩)
  obtain ⟨w1, hw1, XB, b1⟩ : ∃ w1, w.alloc (.cells #[.string ⟨a.toArray⟩, .string ⟨b.toArray⟩, .int .i64 r] 60) = w1 ∧ Box w1 w.heap.size [.string ⟨a.toArray⟩, .string ⟨b.toArray⟩, .int .i64 r] ∧ Below w.heap.size w w1 := ⟨_, rfl, Box.new _ _ [.string ⟨a.toArray⟩, .string ⟨b.toArray⟩, .int .i64 r], (Below.refl _ _).alloc (Nat.le_refl _) _⟩
  obtain ⟨x0, x1, x2⟩ := bx3 XB
  have hsx := XB.1
  have HW1 := Lib.hid hw1; have B1 := Lib.hid b1
  clear hQ XB hw1 b1
  by_cases h : r = q
  · subst h
    have HD : Hid (decide (r = r) = true) := Lib.hid (by simp)
    go_enter Tryz.func88, Tryz.ntmps88
    go_upto_region 1 with fail
    rw [HW1.out]
    go_wp2_with fail
    exact FIN.out _ _ HD.out B1.out
  · have HD : Hid (decide (r = q) = false) := Lib.hid (by simpa using h)
    have hb : (r == q) = false := by rw [beq_eq_false_iff_ne]; exact h
    clear h
    go_enter Tryz.func88, Tryz.ntmps88
    go_upto_region 1 with fail
    rw [HW1.out]
    go_wp2_with fail
    exact FIN.out _ _ HD.out B1.out

set_option maxHeartbeats 6400000 in
set_option maxRecDepth 100000 in
theorem kequal_roots {w : World} {A1 A2 : Option Addr} {n1 n2 c1 c2 : Nat} {L1 : List Rw} {L2 : List Int} (h1 : SlX rlR w A1 n1 L1) (h2 : Sl w A2 n2 L2) (hn1 : n1 ≤ 1000000) (hn2 : n2 ≤ 1000000) :
    Calls Tryz.prog 87 #[.slice A1 n1 c1, .slice A2 n2 c2, .func (.func 88) #[] #[]] w (BoolAns (decide (L1.map (fun r => r.2.2) = L2)) w) := by
  obtain ⟨Q, hQ⟩ : ∃ Q, BoolAns (decide (L1.map (fun r => r.2.2) = L2)) w = Q := ⟨_, rfl⟩
  rw [hQ]
  obtain ⟨LR, hLR⟩ : ∃ LR, L1.map (fun r => r.2.2) = LR := ⟨_, rfl⟩
  rw [hLR] at hQ
  have FIN : Hid (∀ (b : Bool) (w' : World), decide (LR = L2) = b → Below w.heap.size w w' → Q (.returned (.bool b)) w') := Lib.hid (fun b w' e a => by rw [← hQ]; exact ⟨by rw [e], a⟩)
  have e0 : L1.length = n1 := h1.1
  have e1 : LR.length = n1 := by rw [← hLR, List.length_map]; exact h1.1
  have e2 : L2.length = n2 := h2.1
  have H1 := Lib.hid h1; have H2 := Lib.hid h2; have E0 := Lib.hid e0; have E1 := Lib.hid e1; have E2 := Lib.hid e2; have HLR := Lib.hid hLR
  clear hQ h1 h2 hLR e0
  by_cases hn : n1 = n2
  · subst hn
    clear e1 e2
    have HE : ∀ (args : Array Value) (w : World), (callFunc 88 args).run Tryz.prog w = .ok (.enter 88 args) w := run_func Tryz.func88 (by decide) (by decide)
    go_enter Tryz.func87, Tryz.ntmps87
    go_wp2_with fail
    go_loopw [17] (fun i wx => ∃ k : Nat, i = .int .i64 k ∧ k ≤ n1 ∧ Hid (LR.take k = L2.take k) ∧ Hid (Below w.heap.size w wx)) (fun i _ => n1 - (intOf i).toNat)
    case atStart => exact ⟨0, rfl, Nat.zero_le _, Lib.hid rfl, Lib.hid (Below.refl _ _)⟩
    case round =>
      obtain ⟨k, rfl, hk, I1, I2⟩ := hrel
      by_cases hkn : k < n1
      · have hk0 : k < L1.length := by rw [E0.out]; exact hkn
        have hk2 : k < L2.length := by rw [E2.out]; exact hkn
        obtain ⟨⟨kd, nm, r⟩, hx1⟩ : ∃ r, L1[k] = r := ⟨_, rfl⟩
        obtain ⟨q, hx2⟩ : ∃ r, L2[k] = r := ⟨_, rfl⟩
        have g1 : LR[k]? = some r := by rw [← HLR.out, List.getElem?_map, List.getElem?_eq_getElem hk0, hx1]; rfl
        have g2 : L2[k]? = some q := by rw [List.getElem?_eq_getElem hk2, hx2]
        obtain ⟨pb1, o1, rfl, d1⟩ := (H1.out.on I2.out).at hkn
        have f1 := d1 k hk0
        rw [hx1] at f1
        have c0 : wr.cell? ⟨pb1, o1 + k * 3, none⟩ = some (.string ⟨kd.toArray⟩) := f1 0 _ rfl
        have c1 : wr.cell? ⟨pb1, o1 + k * 3 + 1, none⟩ = some (.string ⟨nm.toArray⟩) := f1 1 _ rfl
        have c2 : wr.cell? ⟨pb1, o1 + k * 3 + 2, none⟩ = some (.int .i64 r) := f1 2 _ rfl
        obtain ⟨-, -, -, h4⟩ := H2.out.on I2.out
        obtain ⟨pb2, o2, rfl, d2⟩ : ∃ b off, A2 = some ⟨b, off, none⟩ ∧ ∀ i, i < n1 → wr.cell? ⟨b, off + i, none⟩ = some (.int .i64 (L2.getD i 0)) := by
          rcases h4 with h4 | h4
          · omega
          · exact h4
        have y0 := d2 k hkn
        rw [show L2.getD k 0 = q by rw [List.getD_eq_getElem?_getD, g2]; rfl] at y0
        obtain ⟨w9, hw9, SB, b9⟩ : ∃ w9, wr.alloc (.cells #[.string { data := #[] }, .string { data := #[] }, .int .i64 0] 60) = w9 ∧ Box w9 wr.heap.size [.string { data := #[] }, .string { data := #[] }, .int .i64 0] ∧ Below wr.heap.size wr w9 := ⟨_, rfl, Box.new _ _ [.string { data := #[] }, .string { data := #[] }, .int .i64 0], (Below.refl _ _).alloc (Nat.le_refl _) _⟩
        obtain ⟨w10, hw10, X10, ON10⟩ := st3x SB (.string ⟨kd.toArray⟩) (.string ⟨nm.toArray⟩) (.int .i64 r)
        have b10 : Below wr.heap.size wr w10 := ON10.below (Nat.le_refl _) b9
        have z0 : w10.cell? ⟨pb2, o2 + k, none⟩ = some (.int .i64 q) := (b10.cell (p := ⟨pb2, o2 + k, none⟩) (World.block_lt_of_cell? wr _ y0)).trans y0
        have hz := World.block_lt_of_cell? w10 _ z0
        obtain ⟨u0, u1, u2⟩ := bx3 X10
        obtain ⟨s0, s1, s2⟩ := bx3 SB
        obtain ⟨m0, m1, m2⟩ := bx3f SB
        have hs9 := SB.1
        have hs10 := X10.1
        have gk : (k : Int) < (n1 : Int) := by omega
        have kr := kroot_is kd nm r q w10
        obtain ⟨bq, hbq⟩ : ∃ bq, decide (r = q) = bq := ⟨_, rfl⟩
        rw [hbq] at kr
        have KR := Lib.hid kr
        have HBQ := Lib.hid hbq
        clear kr hbq
        have B10 := Lib.hid (below_step I2.out b10)
        have G1 := Lib.hid g1; have G2 := Lib.hid g2; have HW10 := Lib.hid hw10
        clear d1 d2 f1 hx1 hx2 hk0 hk2 g1 g2 h4 X10 ON10 b9 b10 SB hw10 y0
        go_upto_region 6 with fail
        rw [HW10.out]
        clear HW10 hw9 s0 s1 s2 m0 m1 m2 hs9
        go_wp2_with fail
        refine KR.out.mono ?_
        intro e3 w3 h3
        obtain ⟨rfl, b3⟩ := h3
        have B3 := Lib.hid (below_step B10.out b3)
        clear b3 KR z0 hz hs10 u0 u1 u2
        cases bq with
        | true =>
          have hrq : r = q := by simpa using HBQ.out
          have J := Lib.hid (take_same I1.out (hrq ▸ G1.out) G2.out)
          clear hrq
          go_wp2_with fail
          exact ⟨⟨k + 1, by congr 1, by omega, J, B3⟩, by simp [intOf]; omega⟩
        | false =>
          have hrq : ¬ r = q := by simpa using HBQ.out
          have hd : decide (LR = L2) = false := by
            rw [decide_eq_false_iff_not]; intro e
            have h := G1.out
            rw [e, G2.out] at h
            cases h
            exact hrq rfl
          have HD := Lib.hid hd
          clear hd hrq
          go_wp2_with fail
          exact FIN.out _ _ HD.out B3.out
      · have hek : k = n1 := by omega
        have hd : decide (LR = L2) = true := by
          rw [decide_eq_true_eq]
          have h := I1.out
          rw [List.take_of_length_le (by rw [E1.out]; omega), List.take_of_length_le (by rw [E2.out]; omega)] at h
          exact h
        have HD := Lib.hid hd
        have gk : ¬ (k : Int) < (n1 : Int) := by omega
        clear hd hek I1
        go_wp2_with fail
        exact FIN.out _ _ HD.out I2.out
  · have hd : decide (LR = L2) = false := by rw [decide_eq_false_iff_not]; intro e; rw [e] at e1; omega
    have HD := Lib.hid hd
    have hne : ((n1 : Int) == (n2 : Int)) = false := by rw [beq_eq_false_iff_ne]; omega
    clear hd e1 e2
    go_enter Tryz.func87, Tryz.ntmps87
    go_wp2_with fail
    exact FIN.out _ _ HD.out (Below.refl _ _)
end Go.Proofs.YtdkcdgjpcojdfaaGreatDoor
