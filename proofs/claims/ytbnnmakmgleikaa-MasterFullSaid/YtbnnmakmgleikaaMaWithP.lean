/-
  A list of people with one more in it, or one in place of others: what the landed master answers.
-/
import Derived.Test.YtbnnmakmgleikaaMaSmall
import Derived.Test.YtbnnmakmgleikaaStepRecsG
import Derived.Lib.AppendZeros
import Derived.Deep.DeepCutAuto
import Derived.Deep.RegionHeld3
set_option linter.unusedVariables false
set_option linter.unusedSimpArgs false
namespace Go.Proofs.Ytbnnmakmgleikaa
open Go.RowKit

theorem bxP {w : World} {H : Nat} {a b c d e : Value} (h : Box w H [a, b, c, d, e]) : w.cell? ⟨H, 0, none⟩ = some a ∧ w.cell? ⟨H, 1, none⟩ = some b ∧ w.cell? ⟨H, 2, none⟩ = some c ∧ w.cell? ⟨H, 3, none⟩ = some d ∧ w.cell? ⟨H, 4, none⟩ = some e := ⟨h.c 0 rfl, h.c 1 rfl, h.c 2 rfl, h.c 3 rfl, h.c 4 rfl⟩
theorem recTyP : RecTy rawR 53 24 72 where
  info := ⟨.agg #[.int .i64 0, .int .i64 0, .int .i64 0, .slice none 0 0, .slice none 0 0], by kernel_rfl, by rfl⟩
  under := by kernel_rfl
  few := by decide
/-- A row of the call's own. -/
def OwP (n : Nat) (l : List Raw) (w : World) (e : Ending) (w' : World) : Prop := ∃ v, e = .returned v ∧ w'.ownsRow w.heap.size 53 5 v n (rawR.cells l) ∧ Below w.heap.size w w'
set_option maxRecDepth 100000 in
set_option maxHeartbeats 3200000 in
theorem grow_P (w : World) (n : Nat) (h0 : 0 < n) (hn : n ≤ 100000) : Calls Try.prog 49 #[.slice none 0 0, .int .i64 n] w (OwP 0 [] w) := by
  obtain ⟨Q, hQ⟩ : ∃ Q, OwP 0 [] w = Q := ⟨_, rfl⟩
  rw [hQ]
  obtain ⟨z, hz, hzs⟩ := recTyP.info
  obtain ⟨i0, hi, hz0, hz1, hz2⟩ := info_parts hz
  have hzk : z.cells.size = 5 := hzs
  have hik : i0.size = 5 := hz1
  obtain ⟨G, hG⟩ : ∃ G, grownCap w n 0 53 = G := ⟨_, rfl⟩
  have hGn : n ≤ G := by rw [← hG]; exact grownCap_ge w _ _ _
  have hGm : G ≤ maxLen := by rw [← hG]; exact grownCap_le_maxLen w _ _ _ (by unfold maxLen; omega)
  have hG6 : G ≤ 9223372036854775807 := by unfold maxLen at hGm; omega
  have hrz := Lib.hid (fun ty => Lib.run_append_nil_zeros (P := Try.prog) w 24 3 ty 53 i0 z .i64 .i64 Try.underlying24 Try.underlying3 hi hz0 n h0 (by omega) (by omega) (by rw [hz2]; omega))
  rw [hG] at hrz
  obtain ⟨w2, hw2⟩ : ∃ w2, w.drew.alloc (.cells (Builtin.zeroCells z.cells n ++ Builtin.zeroCells z.cells (G - n)) 53) = w2 := ⟨_, rfl⟩
  rw [hw2] at hrz
  have FIN : Hid (Q (.returned (.slice (some ⟨w.heap.size, 0, none⟩) 0 G)) w2) := Lib.hid (by
    rw [← hQ]
    refine ⟨_, rfl, ⟨rfl, .inr ⟨w.heap.size, G, _, rfl, Nat.le_refl _, by rw [← hw2]; exact heap_alloc_new w.drew _, Nat.zero_le _, hGm, ?_, by rw [Nat.zero_mul]; rfl⟩⟩, ?_⟩
    · rw [Array.size_append, size_zeroCells, size_zeroCells, hzk, ← Nat.add_mul, show n + (G - n) = G by omega]
    · rw [← hw2]; exact ((Below.refl _ _).drew).alloc (Nat.le_refl _) _)
  have g0 : ¬ (n : Int) < 0 := by omega
  have g1 : (0 : Int) < (n : Int) := by omega
  clear hQ hz hzs hi hz0 hz1 hz2 hzk hik hG hGm hw2
  go_enter Try.func49, Try.ntmps49
  go_wp2_with (at_builtin; refine Lib.wpList_append_run _ rfl _ _ _ _ rfl _ _ rfl rfl _ _ (hrz.out _) ?_)
  go_wp2_with fail
  exact FIN.out
/-- Three slices in a row. -/
def Sl3 (w : World) (g : Nat) (v1 v2 v3 : Value) : Prop := w.cell? ⟨g, 0, none⟩ = some v1 ∧ w.cell? ⟨g, 1, none⟩ = some v2 ∧ w.cell? ⟨g, 2, none⟩ = some v3
theorem Sl3.on {w w' : World} {g : Nat} {v1 v2 v3 : Value} (h : Sl3 w g v1 v2 v3) (hb : Below w.heap.size w w') : Sl3 w' g v1 v2 v3 :=
  ⟨(hb.cell (World.block_lt_of_cell? w _ h.1)).trans h.1, (hb.cell (World.block_lt_of_cell? w _ h.2.1)).trans h.2.1, (hb.cell (World.block_lt_of_cell? w _ h.2.2)).trans h.2.2⟩
def nth3 (a b c : Nat) : Nat → Nat
  | 0 => a
  | 1 => b
  | _ => c
def sum3 (a b c : Nat) : Nat → Nat
  | 0 => 0
  | 1 => a
  | 2 => a + b
  | _ => a + b + c
def cat3 {α : Type} (a b c : List α) : Nat → List α
  | 0 => []
  | 1 => a
  | 2 => a ++ b
  | _ => a ++ b ++ c
set_option maxRecDepth 100000 in
set_option maxHeartbeats 6400000 in
theorem concat_P {w : World} {g : Nat} {A1 A2 A3 : Option Addr} {n1 n2 n3 c1 c2 c3 : Nat} {l1 l2 l3 : List Raw} (h3 : Sl3 w g (.slice A1 n1 c1) (.slice A2 n2 c2) (.slice A3 n3 c3)) (S1 : SlX rawR w A1 n1 l1) (S2 : SlX rawR w A2 n2 l2) (S3 : SlX rawR w A3 n3 l3)
    (z1 : A1 = none → c1 = 0) (z2 : A2 = none → c2 = 0) (z3 : A3 = none → c3 = 0) (h0 : 0 < n2) (hn : n1 + n2 + n3 ≤ 100000) :
    Calls Try.prog 42 #[.slice (some ⟨g, 0, none⟩) 3 3] w (OwP (n1 + n2 + n3) (l1 ++ l2 ++ l3) w) := by
  obtain ⟨Q, hQ⟩ : ∃ Q, OwP (n1 + n2 + n3) (l1 ++ l2 ++ l3) w = Q := ⟨_, rfl⟩
  rw [hQ]
  have FIN : Hid (∀ v w', w'.ownsRow w.heap.size 53 5 v (n1 + n2 + n3) (rawR.cells (l1 ++ l2 ++ l3)) → Below w.heap.size w w' → Q (.returned v) w') := Lib.hid (fun v w' a b => by rw [← hQ]; exact ⟨v, rfl, a, b⟩)
  have H3 := Lib.hid h3; have HS1 := Lib.hid S1; have HS2 := Lib.hid S2; have HS3 := Lib.hid S3; have HZ1 := Lib.hid z1; have HZ2 := Lib.hid z2; have HZ3 := Lib.hid z3
  clear hQ h3 S1 S2 S3 z1 z2 z3
  go_enter Try.func42, Try.ntmps42
  go_wp2_with fail
  go_loopw [3, 5, 11] (fun s d i wr => ∃ k : Nat, k ≤ 3 ∧ i = .int .i64 k ∧ s = .int .i64 (sum3 n1 n2 n3 k : Nat) ∧ wr = w) (fun _ _ i _ => 3 - (intOf i).toNat)
  case atStart => exact ⟨0, Nat.zero_le _, rfl, rfl, rfl⟩
  case round =>
    obtain ⟨k, hk, rfl, rfl, rfl⟩ := hrel
    by_cases hlt : k < 3
    · have gk : (k : Int) < 3 := by omega
      have gk0 : (0 : Int) ≤ (k : Int) := by omega
      obtain ⟨A, m, c, hc, hm, hs, hb⟩ : ∃ A m c, wr.cell? ⟨g, k, none⟩ = some (.slice A m c) ∧ sum3 n1 n2 n3 (k + 1) = sum3 n1 n2 n3 k + m ∧ m ≤ 100000 ∧ sum3 n1 n2 n3 k + m ≤ 100000 := by
        obtain ⟨q0, q1, q2⟩ := H3.out
        rcases k with _ | _ | _ | k
        · exact ⟨_, _, _, q0, by simp [sum3], by omega, by simp [sum3]; omega⟩
        · exact ⟨_, _, _, q1, by simp [sum3], by omega, by simp [sum3]; omega⟩
        · exact ⟨_, _, _, q2, by simp [sum3], by omega, by simp [sum3]; omega⟩
        · omega
      have hsc := World.block_lt_of_cell? wr _ hc
      obtain ⟨s, hse⟩ : ∃ s, sum3 n1 n2 n3 k = s := ⟨_, rfl⟩
      rw [hse] at hm hb ⊢
      have gs : ¬ (s : Int) + (m : Int) < 0 := by omega
      have HM := Lib.hid hm
      clear hm hse
      go_wp2_with fail
      exact ⟨⟨k + 1, by omega, by congr 1, by rw [HM.out]; congr 1, trivial⟩, by simp [intOf]; omega⟩
    · obtain rfl : k = 3 := by omega
      have gk : ¬ (3 : Int) < 3 := by omega
      have e3 : sum3 n1 n2 n3 3 = n1 + n2 + n3 := rfl
      rw [e3]
      obtain ⟨N, hN⟩ : ∃ N, n1 + n2 + n3 = N := ⟨_, rfl⟩
      rw [hN] at hn FIN ⊢
      have CG := Lib.hid (grow_P wr N (by omega) hn)
      have HN := Lib.hid hN
      obtain ⟨wo, hwo⟩ : ∃ wo, wo = wr := ⟨_, rfl⟩
      subst hwo
      clear hN e3 hk hlt
      go_wp2_with (go_at_call 49; refine CG.out.mono ?_)
      intro e1 w1 h1
      obtain ⟨v, rfl, o1, b1⟩ := h1
      have O1 := Lib.hid o1; have B1 := Lib.hid b1
      clear o1 b1 CG
      go_wp2_with fail
      go_loopw [6, 8, 27] (fun u d i wx => ∃ (k : Nat) (v : Value), k ≤ 3 ∧ i = .int .i64 k ∧ u = v ∧ Hid (wx.ownsRow wo.heap.size 53 5 v (sum3 n1 n2 n3 k) (rawR.cells (cat3 l1 l2 l3 k))) ∧ Hid (Below wo.heap.size wo wx)) (fun _ _ i _ => 3 - (intOf i).toNat)
      case atStart => exact ⟨0, v, Nat.zero_le _, rfl, rfl, O1, B1⟩
      case round =>
        obtain ⟨k, u, hk, rfl, hu, I1, I2⟩ := hrel
        rw [hu]
        clear hu
        by_cases hlt : k < 3
        · have gk : (k : Int) < 3 := by omega
          have gk0 : (0 : Int) ≤ (k : Int) := by omega
          have HX := H3.out.on I2.out
          obtain ⟨A, m, c, l, hc, hm, hcat, hS, hz, hb⟩ : ∃ A m c l, wr.cell? ⟨g, k, none⟩ = some (.slice A m c) ∧ sum3 n1 n2 n3 (k + 1) = sum3 n1 n2 n3 k + m ∧ cat3 l1 l2 l3 (k + 1) = cat3 l1 l2 l3 k ++ l ∧ SlX rawR wr A m l ∧ (A = none → c = 0) ∧ sum3 n1 n2 n3 k + m ≤ 100000 := by
            obtain ⟨q0, q1, q2⟩ := HX
            have hn' := HN.out
            rcases k with _ | _ | _ | k
            · exact ⟨_, _, _, l1, q0, by simp [sum3], by simp [cat3], HS1.out.on I2.out, HZ1.out, by simp [sum3]; omega⟩
            · exact ⟨_, _, _, l2, q1, by simp [sum3], by simp [cat3], HS2.out.on I2.out, HZ2.out, by simp [sum3]; omega⟩
            · exact ⟨_, _, _, l3, q2, by simp [sum3], by simp [cat3], HS3.out.on I2.out, HZ3.out, by simp [sum3]; omega⟩
            · omega
          have hsc := World.block_lt_of_cell? wr _ hc
          have I1' := I1.out
          have hlen : (cat3 l1 l2 l3 k).length = sum3 n1 n2 n3 k := by
            have h1 := I1'.1
            rw [Rec.cells_len] at h1
            exact Nat.eq_of_mul_eq_mul_right (by decide : 0 < 5) h1
          have OW : Hid (wr.ownsRow wo.heap.size 53 rawR.k u (cat3 l1 l2 l3 k).length (rawR.cells (cat3 l1 l2 l3 k))) := Lib.hid (by rw [hlen]; exact I1')
          have HSl := Lib.hid hS; have HZ := Lib.hid hz
          have hn5 : (cat3 l1 l2 l3 k).length + m ≤ 100000 := by omega
          have hbs := I2.out.size
          have HCAT := Lib.hid hcat; have HM : Hid (sum3 n1 n2 n3 (k + 1) = (cat3 l1 l2 l3 k).length + m) := Lib.hid (by rw [hlen]; exact hm)
          obtain ⟨ll, hll⟩ : ∃ ll, cat3 l1 l2 l3 k = ll := ⟨_, rfl⟩
          rw [hll] at OW hn5 HCAT HM
          clear hcat hm hS hz HX I1' I1 hlen hb hll
          go_wp2_with (at_builtin; refine append_recs recTyP rfl _ _ rfl wo.heap.size u ll (by rfl) OW.out A m c l (by rfl) HZ.out HSl.out hn5 hbs ?_)
          intro v2 w4 hown hb4
          have ON : Hid (w4.ownsRow wo.heap.size 53 5 v2 (sum3 n1 n2 n3 (k + 1)) (rawR.cells (cat3 l1 l2 l3 (k + 1)))) := Lib.hid (by rw [HM.out, HCAT.out]; exact hown)
          have B4 := Lib.hid (I2.out.trans hb4)
          clear hown hb4 OW hsc hc
          go_wp2_with fail
          exact ⟨⟨k + 1, _, by omega, by congr 1, rfl, ON, B4⟩, by simp [intOf]; omega⟩
        · obtain rfl : k = 3 := by omega
          have gk : ¬ (3 : Int) < 3 := by omega
          have FF := Lib.hid (FIN.out u wr (by rw [← HN.out]; exact I1.out) I2.out)
          clear I1
          go_wp2_with fail
          exact FF.out
theorem own_weak {w : World} {B B' e size n : Nat} {v : Value} {xs : List Value} (h : w.ownsRow B e size v n xs) (hB : B' ≤ B) : w.ownsRow B' e size v n xs := by
  obtain ⟨h1, h2⟩ := h
  refine ⟨h1, ?_⟩
  rcases h2 with h2 | ⟨g, cap, cur, hv, hg, r⟩
  · exact .inl h2
  · exact .inr ⟨g, cap, cur, hv, Nat.le_trans hB hg, r⟩
/-- The list, in a block of the call's own. -/
def WiP (N : Nat) (l : List Raw) (w : World) (e : Ending) (w' : World) : Prop := ∃ g cap, e = .returned (.slice (some ⟨g, 0, none⟩) N cap) ∧ w.heap.size ≤ g ∧ SlX rawR w' (some ⟨g, 0, none⟩) N l ∧ N ≤ cap ∧ cap ≤ maxLen ∧ Below w.heap.size w w'
theorem wi_of_P {N : Nat} {l : List Raw} {w w' : World} {e : Ending} (h : OwP N l w e w') (h0 : 0 < N) : WiP N l w e w' := by
  obtain ⟨v, rfl, ho, hb⟩ := h
  have hl : l.length = N := by
    have h1 := ho.1
    rw [Rec.cells_len] at h1
    exact Nat.eq_of_mul_eq_mul_right (by decide : 0 < 5) h1
  obtain ⟨A, cap, e1, h1, h2, h3⟩ := slr_of_own ho hl
  rcases ho.2 with ⟨e3, e4⟩ | ⟨g, cap', cur, e3, hg, _, _, hm, _⟩
  · omega
  · rw [e3] at e1; cases e1
    exact ⟨g, _, by rw [e3], hg, h3, h2, hm, hb⟩
def CwP (Q : Ending → World → Prop) (w1 : World) (e : Ending) (w' : World) : Prop := ∃ v, e = .returned v ∧ Q (.returned v) w' ∧ Below w1.heap.size w1 w'
theorem boxP {w : World} {H : Nat} {x : Raw} (h : Box w H (rawR.C x)) : SlX rawR w (some ⟨H, 0, none⟩) 1 [x] := by
  refine ⟨rfl, .inr ⟨H, 0, rfl, fun i hi j v e => ?_⟩⟩
  obtain rfl : i = 0 := by simpa using hi
  rw [Nat.zero_mul, Nat.zero_add]
  exact h.c j e
set_option maxRecDepth 100000 in
set_option maxHeartbeats 6400000 in
theorem with_P {w : World} {A : Option Addr} {n c i j : Nat} {l : List Raw} (S : SlX rawR w A n l) (hA : A = none → c = 0) (hnc : n ≤ c) (hcm : c ≤ maxLen) (hij : i ≤ j) (hj : j ≤ n) (hn : n ≤ 90000) (x : Raw) :
    Calls Try.prog 27 #[.slice A n c, .int .i64 i, .int .i64 j, .agg #[.int .i64 x.id, .int .i64 x.hired, .int .i64 x.gone, .slice x.A x.n x.c, .slice x.B x.m x.d]] w (WiP (i + 1 + (n - j)) (PMa.with_ l i j x) w) := by
  obtain ⟨Q, hQ⟩ : ∃ Q, WiP (i + 1 + (n - j)) (PMa.with_ l i j x) w = Q := ⟨_, rfl⟩
  rw [hQ]
  obtain ⟨w1, hw1, XB, b1⟩ : ∃ w1, w.alloc (.cells #[.int .i64 x.id, .int .i64 x.hired, .int .i64 x.gone, .slice x.A x.n x.c, .slice x.B x.m x.d] 53) = w1 ∧ Box w1 w.heap.size [.int .i64 x.id, .int .i64 x.hired, .int .i64 x.gone, .slice x.A x.n x.c, .slice x.B x.m x.d] ∧ Below w.heap.size w w1 := ⟨_, rfl, Box.new _ _ [.int .i64 x.id, .int .i64 x.hired, .int .i64 x.gone, .slice x.A x.n x.c, .slice x.B x.m x.d], (Below.refl _ _).alloc (Nat.le_refl _) _⟩
  have FIN : Hid (∀ e w', OwP (i + 1 + (n - j)) (l.take i ++ [x] ++ l.drop j) w e w' → Q e w') := Lib.hid (fun e w' h => by
    rw [← hQ]
    have h2 := wi_of_P h (by omega)
    unfold PMa.with_
    rw [List.append_assoc] at h2
    exact h2)
  have HW1 := Lib.hid hw1; have B1 := Lib.hid b1; have HXB := Lib.hid XB
  have HS := Lib.hid (S.on b1)
  have hcm2 : (c : Int) ≤ 9223372036854775807 := by unfold maxLen at hcm; omega
  have gi0 : (0 : Int) ≤ (i : Int) := by omega
  have gj0 : (0 : Int) ≤ (j : Int) := by omega
  have gin : (i : Int) ≤ (n : Int) := by omega
  have gjn : (j : Int) ≤ (n : Int) := by omega
  have gic : (i : Int) ≤ (c : Int) := by omega
  have gjc : (j : Int) ≤ (c : Int) := by omega
  obtain ⟨y0, y1, y2, y3, y4⟩ := bxP XB
  have hs := XB.1
  have KZ : Hid (∀ W, Below w1.heap.size w1 W → W.cell? ⟨w.heap.size, 0, none⟩ = some (.int .i64 x.id) ∧ W.cell? ⟨w.heap.size, 1, none⟩ = some (.int .i64 x.hired) ∧ W.cell? ⟨w.heap.size, 2, none⟩ = some (.int .i64 x.gone) ∧ W.cell? ⟨w.heap.size, 3, none⟩ = some (.slice x.A x.n x.c) ∧ W.cell? ⟨w.heap.size, 4, none⟩ = some (.slice x.B x.m x.d)) := Lib.hid (fun W hb => by
    have hX := XB.on hb
    obtain ⟨q0, q1, q2, q3, q4⟩ := bxP hX
    exact ⟨q0, q1, q2, q3, q4⟩)
  have Ba : Below w1.heap.size w1 w1.drew := (Below.refl _ _).drew
  have Bb : Below w1.heap.size w1 (w1.alloc (.cells #[.int .i64 x.id, .int .i64 x.hired, .int .i64 x.gone, .slice x.A x.n x.c, .slice x.B x.m x.d] 53)).drew := ((Below.refl _ _).alloc (Nat.le_refl _) _).drew
  clear hQ hw1 XB b1 S
  have gm1 : ((n : Int) - (j : Int)) = ((n - j : Nat) : Int) := by omega
  obtain ⟨A3, hA3, S3, zA3⟩ : ∃ A3, A3 = (if c = j then A else A.map (fun a => a.add (j * 5))) ∧ SlX rawR w1 A3 (n - j) (l.drop j) ∧ (A3 = none → c - j = 0) := by
    refine ⟨_, rfl, ?_, ?_⟩
    · have S := HS.out
      have hl := S.1
      by_cases hnj : n - j = 0
      · refine ⟨by rw [List.length_drop]; omega, .inl hnj⟩
      · obtain ⟨b, off, rfl, -⟩ := S.at (i := j) (by omega)
        rw [if_neg (by omega)]
        show SlX rawR w1 (some ((⟨b, off, none⟩ : Addr).add (j * 5))) (n - j) (l.drop j)
        rw [addr_add']
        exact S.drop
    · intro h
      split at h
      · omega
      · cases A with
        | none => have := hA rfl; omega
        | some a => cases h
  have CC : ∀ W2, ((w1.alloc (.cells #[.int .i64 x.id, .int .i64 x.hired, .int .i64 x.gone, .slice x.A x.n x.c, .slice x.B x.m x.d] 53)).alloc (.cells #[.slice A i c, .slice (some ⟨w1.heap.size, 0, none⟩) 1 1, .slice A3 (n - j) (c - j)] 24)).drew = W2 → Calls Try.prog 42 #[.slice (some ⟨w1.heap.size + 1, 0, none⟩) 3 3] W2 (CwP Q w1) := fun W2 hW => by
    have X1 := Box.new w1 53 [.int .i64 x.id, .int .i64 x.hired, .int .i64 x.gone, .slice x.A x.n x.c, .slice x.B x.m x.d]
    have bA : Below w1.heap.size w1 (w1.alloc (.cells #[.int .i64 x.id, .int .i64 x.hired, .int .i64 x.gone, .slice x.A x.n x.c, .slice x.B x.m x.d] 53)) := (Below.refl _ _).alloc (Nat.le_refl _) _
    have hsz : (w1.alloc (.cells #[.int .i64 x.id, .int .i64 x.hired, .int .i64 x.gone, .slice x.A x.n x.c, .slice x.B x.m x.d] 53)).heap.size = w1.heap.size + 1 := by simp
    have X2 := Box.new' (w1.alloc (.cells #[.int .i64 x.id, .int .i64 x.hired, .int .i64 x.gone, .slice x.A x.n x.c, .slice x.B x.m x.d] 53)) 24 [.slice A i c, .slice (some ⟨w1.heap.size, 0, none⟩) 1 1, .slice A3 (n - j) (c - j)] hsz.symm
    have bB : Below (w1.alloc (.cells #[.int .i64 x.id, .int .i64 x.hired, .int .i64 x.gone, .slice x.A x.n x.c, .slice x.B x.m x.d] 53)).heap.size (w1.alloc (.cells #[.int .i64 x.id, .int .i64 x.hired, .int .i64 x.gone, .slice x.A x.n x.c, .slice x.B x.m x.d] 53)) W2 := by rw [← hW]; exact ((Below.refl _ _).alloc (Nat.le_refl _) _).drew
    have bT := below_step bA bB
    have X2' : Box W2 (w1.heap.size + 1) [.slice A i c, .slice (some ⟨w1.heap.size, 0, none⟩) 1 1, .slice A3 (n - j) (c - j)] := by rw [← hW]; exact X2.on ((Below.refl _ _).drew)
    have h := concat_P (w := W2) (g := w1.heap.size + 1) ⟨X2'.c 0 rfl, X2'.c 1 rfl, X2'.c 2 rfl⟩ (SlX.take (HS.out.on bT) (by omega)) (boxP (x := x) (X1.on bB)) (S3.on bT) hA (fun h => by cases h) zA3 (by omega) (by omega)
    refine h.mono ?_
    rintro e w' ⟨v, rfl, h1, h2⟩
    exact ⟨v, rfl, FIN.out _ w' ⟨v, rfl, own_weak h1 (by have := B1.out.size; have := bT.size; omega), below_step B1.out (below_step bT h2)⟩, below_step bT h2⟩
  have CCh := Lib.hid (CC _ rfl)
  cases A with
  | none =>
    obtain rfl := hA rfl
    obtain rfl : n = 0 := by omega
    obtain rfl : j = 0 := by omega
    obtain rfl : i = 0 := by omega
    obtain rfl : A3 = none := by rw [hA3]; rfl
    clear hA3 S3 zA3 CC
    go_enter Try.func27, Try.ntmps27
    go_upto_region 1 with fail
    rw [HW1.out]
    clear HW1
    go_region_held3 (fun w' => w'.cell? ⟨w.heap.size, 0, none⟩ = some (.int .i64 x.id) ∧ w'.cell? ⟨w.heap.size, 1, none⟩ = some (.int .i64 x.hired) ∧ w'.cell? ⟨w.heap.size, 2, none⟩ = some (.int .i64 x.gone) ∧ w'.cell? ⟨w.heap.size, 3, none⟩ = some (.slice x.A x.n x.c) ∧ w'.cell? ⟨w.heap.size, 4, none⟩ = some (.slice x.B x.m x.d))
      (first
        | with_reducible exact KZ.out _ Ba
        | with_reducible exact KZ.out _ Bb
        | with_reducible exact KZ.out _ hb
        | exact KZ.out _ (by first | exact Below.drew (Below.alloc (Below.alloc (Below.refl _ _) (Nat.le_refl _) _) (Nat.le_succ _) _) | exact Below.drew (Below.alloc (Below.alloc (Below.refl _ _) (Nat.le_refl _) _) (by simp) _)))
      (first
        | (go_at_call 42; (with_reducible refine CCh.out.mono ?_); rintro _ w9 ⟨v, rfl, hq, hb⟩; have HQ9 := Lib.hid hq)
        | fail)
    all_goals
      go_wp2_with fail
      exact HQ9.out
  | some a =>
    rw [show (some a).map (fun a => a.add (j * 5)) = some (a.add (j * 5)) from rfl] at hA3
    by_cases hcj : c = j
    · rw [if_pos hcj] at hA3
      subst hA3
      subst hcj
      obtain rfl : n = c := by omega
      clear S3 zA3 CC
      simp only [Nat.sub_self] at CCh
      go_enter Try.func27, Try.ntmps27
      go_upto_region 1 with fail
      rw [HW1.out]
      clear HW1
      go_region_held3 (fun w' => w'.cell? ⟨w.heap.size, 0, none⟩ = some (.int .i64 x.id) ∧ w'.cell? ⟨w.heap.size, 1, none⟩ = some (.int .i64 x.hired) ∧ w'.cell? ⟨w.heap.size, 2, none⟩ = some (.int .i64 x.gone) ∧ w'.cell? ⟨w.heap.size, 3, none⟩ = some (.slice x.A x.n x.c) ∧ w'.cell? ⟨w.heap.size, 4, none⟩ = some (.slice x.B x.m x.d))
        (first
          | with_reducible exact KZ.out _ Ba
          | with_reducible exact KZ.out _ Bb
          | with_reducible exact KZ.out _ hb
          | exact KZ.out _ (by first | exact Below.drew (Below.alloc (Below.alloc (Below.refl _ _) (Nat.le_refl _) _) (Nat.le_succ _) _) | exact Below.drew (Below.alloc (Below.alloc (Below.refl _ _) (Nat.le_refl _) _) (by simp) _)))
        (first
          | (go_at_call 42; (with_reducible refine CCh.out.mono ?_); rintro _ w9 ⟨v, rfl, hq, hb⟩; have HQ9 := Lib.hid hq)
          | fail)
      all_goals
        go_wp2_with fail
        exact HQ9.out
    · rw [if_neg hcj] at hA3
      subst hA3
      clear S3 zA3 CC
      go_enter Try.func27, Try.ntmps27
      go_upto_region 1 with fail
      rw [HW1.out]
      clear HW1
      go_region_held3 (fun w' => w'.cell? ⟨w.heap.size, 0, none⟩ = some (.int .i64 x.id) ∧ w'.cell? ⟨w.heap.size, 1, none⟩ = some (.int .i64 x.hired) ∧ w'.cell? ⟨w.heap.size, 2, none⟩ = some (.int .i64 x.gone) ∧ w'.cell? ⟨w.heap.size, 3, none⟩ = some (.slice x.A x.n x.c) ∧ w'.cell? ⟨w.heap.size, 4, none⟩ = some (.slice x.B x.m x.d))
        (first
          | with_reducible exact KZ.out _ Ba
          | with_reducible exact KZ.out _ Bb
          | with_reducible exact KZ.out _ hb
          | exact KZ.out _ (by first | exact Below.drew (Below.alloc (Below.alloc (Below.refl _ _) (Nat.le_refl _) _) (Nat.le_succ _) _) | exact Below.drew (Below.alloc (Below.alloc (Below.refl _ _) (Nat.le_refl _) _) (by simp) _)))
        (first
          | (go_at_call 42; (with_reducible refine CCh.out.mono ?_); rintro _ w9 ⟨v, rfl, hq, hb⟩; have HQ9 := Lib.hid hq)
          | fail)
      all_goals
        go_wp2_with fail
        exact HQ9.out
end Go.Proofs.Ytbnnmakmgleikaa
