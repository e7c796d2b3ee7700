/-
  What the library's slices.EqualFunc answers for rules and places: whether the places are the rules' roots, one by one.
-/
import Derived.Test.YtfihdbnecepmfaaGreatDoorShowEqG
import Derived.Test.YtfihdbnecepmfaaGreatDoorIntSliceG

set_option linter.unusedVariables false
namespace Go.Proofs.YtfihdbnecepmfaaGreatDoor
open Go.RowKit
open PCheck (Xp)

theorem run_func {F : FuncId} {fn : Func} (hf : Tryz.prog.funcs[F]? = some fn) (hn : (fn.name == "runtime.NumGoroutine") = false) (hb : fn.body.isNone = false) (args : Array Value) (w : World) : (callFunc F args).run Tryz.prog w = .ok (.enter F args) w := by
  have h1 : ¬ fn.name = "runtime.NumGoroutine" := by simpa using hn
  have h2 : ¬ fn.body = none := by intro h; rw [h] at hb; cases hb
  unfold callFunc
  simp [go_sem, hf, h1, h2]
set_option maxHeartbeats 3200000 in
set_option maxRecDepth 100000 in
theorem kroot_is (a b : List UInt8) (r q : Int) (w : World) : Calls Tryz.prog 75 #[.agg #[.string ⟨a.toArray⟩, .string ⟨b.toArray⟩, .int .i64 r], .int .i64 q] w (BoolAns (decide (r = q)) w) := by
  obtain ⟨Q, hQ⟩ : ∃ Q, BoolAns (decide (r = q)) w = Q := ⟨_, rfl⟩
  rw [hQ]
  have FIN : Hid (∀ (c : Bool) (w' : World), decide (r = q) = c → Below w.heap.size w w' → Q (.returned (.bool c)) w') := Lib.hid (fun c w' e a => by rw [← hQ]; exact ⟨by rw [e], a⟩)
  obtain ⟨w1, hw1, XB, b1⟩ : ∃ w1, w.alloc (.cells #[.string ⟨a.toArray⟩, .string ⟨b.toArray⟩, .int .i64 r] 67) = w1 ∧ Box w1 w.heap.size [.string ⟨a.toArray⟩, .string ⟨b.toArray⟩, .int .i64 r] ∧ Below w.heap.size w w1 := ⟨_, rfl, Box.new _ _ [.string ⟨a.toArray⟩, .string ⟨b.toArray⟩, .int .i64 r], (Below.refl _ _).alloc (Nat.le_refl _) _⟩
  obtain ⟨x0, x1, x2⟩ := bx3 XB
  have hsx := XB.1
  have HW1 := Lib.hid hw1; have B1 := Lib.hid b1
  clear hQ XB hw1 b1
  by_cases h : r = q
  · subst h
    have HD : Hid (decide (r = r) = true) := Lib.hid (by simp)
    go_enter Tryz.func75, Tryz.ntmps75
    go_upto_region 1 with fail
    rw [HW1.out]
    go_wp2_with fail
    exact FIN.out _ _ HD.out B1.out
  · have HD : Hid (decide (r = q) = false) := Lib.hid (by simpa using h)
    have hb : (r == q) = false := by rw [beq_eq_false_iff_ne]; exact h
    clear h
    go_enter Tryz.func75, Tryz.ntmps75
    go_upto_region 1 with fail
    rw [HW1.out]
    go_wp2_with fail
    exact FIN.out _ _ HD.out B1.out

set_option maxHeartbeats 6400000 in
set_option maxRecDepth 100000 in
theorem kequal_roots {w : World} {A1 A2 : Option Addr} {n1 n2 c1 c2 : Nat} {L1 : List Rw} {L2 : List Int} (h1 : SlX rlR w A1 n1 L1) (h2 : Sl w A2 n2 L2) (hn1 : n1 ≤ 1000000) (hn2 : n2 ≤ 1000000) :
    Calls Tryz.prog 74 #[.slice A1 n1 c1, .slice A2 n2 c2, .func (.func 75) #[] #[]] w (BoolAns (decide (L1.map (fun r => r.2.2) = L2)) w) := by
  obtain ⟨Q, hQ⟩ : ∃ Q, BoolAns (decide (L1.map (fun r => r.2.2) = L2)) w = Q := ⟨_, rfl⟩
  rw [hQ]
  obtain ⟨LR, hLR⟩ : ∃ LR, L1.map (fun r => r.2.2) = LR := ⟨_, rfl⟩
  rw [hLR] at hQ
  have FIN : Hid (∀ (b : Bool) (w' : World), decide (LR = L2) = b → Below w.heap.size w w' → Q (.returned (.bool b)) w') := Lib.hid (fun b w' e a => by rw [← hQ]; exact ⟨by rw [e], a⟩)
  have e0 : L1.length = n1 := h1.1
  have e1 : LR.length = n1 := by rw [← hLR, List.length_map]; exact h1.1
  have e2 : L2.length = n2 := h2.1
  have H1 := Lib.hid h1; have H2 := Lib.hid h2; have E0 := Lib.hid e0; have E1 := Lib.hid e1; have E2 := Lib.hid e2; have HLR := Lib.hid hLR
  clear hQ h1 h2 hLR e0
  by_cases hn : n1 = n2
  · subst hn
    clear e1 e2
    have HE : ∀ (args : Array Value) (w : World), (callFunc 75 args).run Tryz.prog w = .ok (.enter 75 args) w := run_func Tryz.func75 (by decide) (by decide)
    go_enter Tryz.func74, Tryz.ntmps74
    go_wp2_with fail
    go_loopw [17] (fun i wx => ∃ k : Nat, i = .int .i64 k ∧ k ≤ n1 ∧ Hid (LR.take k = L2.take k) ∧ Hid (Below w.heap.size w wx)) (fun i _ => n1 - (intOf i).toNat)
    case atStart => exact ⟨0, rfl, Nat.zero_le _, Lib.hid rfl, Lib.hid (Below.refl _ _)⟩
    case round =>
      obtain ⟨k, rfl, hk, I1, I2⟩ := hrel
      by_cases hkn : k < n1
      · have hk0 : k < L1.length := by rw [E0.out]; exact hkn
        have hk2 : k < L2.length := by rw [E2.out]; exact hkn
        obtain ⟨⟨kd, nm, r⟩, hx1⟩ : ∃ r, L1[k] = r := ⟨_, rfl⟩
        obtain ⟨q, hx2⟩ : ∃ r, L2[k] = r := ⟨_, rfl⟩
        have g1 : LR[k]? = some r := by rw [← HLR.out, List.getElem?_map, List.getElem?_eq_getElem hk0, hx1]; rfl
        have g2 : L2[k]? = some q := by rw [List.getElem?_eq_getElem hk2, hx2]
        obtain ⟨pb1, o1, rfl, d1⟩ := (H1.out.on I2.out).at hkn
        have f1 := d1 k hk0
        rw [hx1] at f1
        have c0 : wr.cell? ⟨pb1, o1 + k * 3, none⟩ = some (.string ⟨kd.toArray⟩) := f1 0 _ rfl
        have c1 : wr.cell? ⟨pb1, o1 + k * 3 + 1, none⟩ = some (.string ⟨nm.toArray⟩) := f1 1 _ rfl
        have c2 : wr.cell? ⟨pb1, o1 + k * 3 + 2, none⟩ = some (.int .i64 r) := f1 2 _ rfl
        obtain ⟨-, -, -, h4⟩ := H2.out.on I2.out
        obtain ⟨pb2, o2, rfl, d2⟩ : ∃ b off, A2 = some ⟨b, off, none⟩ ∧ ∀ i, i < n1 → wr.cell? ⟨b, off + i, none⟩ = some (.int .i64 (L2.getD i 0)) := by
          rcases h4 with h4 | h4
          · omega
          · exact h4
        have y0 := d2 k hkn
        rw [show L2.getD k 0 = q by rw [List.getD_eq_getElem?_getD, g2]; rfl] at y0
        obtain ⟨w9, hw9, SB, b9⟩ : ∃ w9, wr.alloc (.cells #[.string { data := #[] }, .string { data := #[] }, .int .i64 0] 67) = w9 ∧ Box w9 wr.heap.size [.string { data := #[] }, .string { data := #[] }, .int .i64 0] ∧ Below wr.heap.size wr w9 := ⟨_, rfl, Box.new _ _ [.string { data := #[] }, .string { data := #[] }, .int .i64 0], (Below.refl _ _).alloc (Nat.le_refl _) _⟩
        obtain ⟨w10, hw10, X10, ON10⟩ := st3x SB (.string ⟨kd.toArray⟩) (.string ⟨nm.toArray⟩) (.int .i64 r)
        have b10 : Below wr.heap.size wr w10 := ON10.below (Nat.le_refl _) b9
        have z0 : w10.cell? ⟨pb2, o2 + k, none⟩ = some (.int .i64 q) := (b10.cell (p := ⟨pb2, o2 + k, none⟩) (World.block_lt_of_cell? wr _ y0)).trans y0
        have hz := World.block_lt_of_cell? w10 _ z0
        obtain ⟨u0, u1, u2⟩ := bx3 X10
        obtain ⟨s0, s1, s2⟩ := bx3 SB
        obtain ⟨m0, m1, m2⟩ := bx3f SB
        have hs9 := SB.1
        have hs10 := X10.1
        have gk : (k : Int) < (n1 : Int) := by omega
        have kr := kroot_is kd nm r q w10
        obtain ⟨bq, hbq⟩ : ∃ bq, decide (r = q) = bq := ⟨_, rfl⟩
        rw [hbq] at kr
        have KR := Lib.hid kr
        have HBQ := Lib.hid hbq
        clear kr hbq
        have B10 := Lib.hid (below_step I2.out b10)
        have G1 := Lib.hid g1; have G2 := Lib.hid g2; have HW10 := Lib.hid hw10
        clear d1 d2 f1 hx1 hx2 hk0 hk2 g1 g2 h4 X10 ON10 b9 b10 SB hw10 y0
        go_upto_region 6 with fail
        rw [HW10.out]
        clear HW10 hw9 s0 s1 s2 m0 m1 m2 hs9
        go_wp2_with fail
        refine KR.out.mono ?_
        intro e3 w3 h3
        obtain ⟨rfl, b3⟩ := h3
        have B3 := Lib.hid (below_step B10.out b3)
        clear b3 KR z0 hz hs10 u0 u1 u2
        cases bq with
        | true =>
          have hrq : r = q := by simpa using HBQ.out
          have J := Lib.hid (take_same I1.out (hrq ▸ G1.out) G2.out)
          clear hrq
          go_wp2_with fail
          exact ⟨⟨k + 1, by congr 1, by omega, J, B3⟩, by simp [intOf]; omega⟩
        | false =>
          have hrq : ¬ r = q := by simpa using HBQ.out
          have hd : decide (LR = L2) = false := by
            rw [decide_eq_false_iff_not]; intro e
            have h := G1.out
            rw [e, G2.out] at h
            cases h
            exact hrq rfl
          have HD := Lib.hid hd
          clear hd hrq
          go_wp2_with fail
          exact FIN.out _ _ HD.out B3.out
      · have hek : k = n1 := by omega
        have hd : decide (LR = L2) = true := by
          rw [decide_eq_true_eq]
          have h := I1.out
          rw [List.take_of_length_le (by rw [E1.out]; omega), List.take_of_length_le (by rw [E2.out]; omega)] at h
          exact h
        have HD := Lib.hid hd
        have gk : ¬ (k : Int) < (n1 : Int) := by omega
        clear hd hek I1
        go_wp2_with fail
        exact FIN.out _ _ HD.out I2.out
  · have hd : decide (LR = L2) = false := by rw [decide_eq_false_iff_not]; intro e; rw [e] at e1; omega
    have HD := Lib.hid hd
    have hne : ((n1 : Int) == (n2 : Int)) = false := by rw [beq_eq_false_iff_ne]; omega
    clear hd e1 e2
    go_enter Tryz.func74, Tryz.ntmps74
    go_wp2_with fail
    exact FIN.out _ _ HD.out (Below.refl _ _)
end Go.Proofs.YtfihdbnecepmfaaGreatDoor
