/-
  A file read back: what the landed bank answers.
-/
import Derived.Test.YtbnnmakmgleikaaDoorBkGuess
import Derived.Test.YtbnnmakmgleikaaDoorBkWrite
import Derived.Test.YtbnnmakmgleikaaDoorMoneyWords
set_option linter.unusedVariables false
namespace Go.Proofs.YtbnnmakmgleikaaDoor
open Go.RowKit
open PBank (Pay)

def RdB (s : List UInt8) (w : World) (e : Ending) (w' : World) : Prop :=
  (PBank.isTx s ∧ ∃ A c, e = .returned (.tuple #[.agg #[.int .i64 (PBank.gPer s), .slice A (PBank.gPay s).length c], .int .i64 0]) ∧ SlX payR w' A (PBank.gPay s).length (PBank.gPay s) ∧ Below w.heap.size w w') ∨
  (¬ PBank.isTx s ∧ e = .returned (.tuple #[.agg #[.int .i64 0, .slice none 0 0], .int .i64 2]) ∧ Below w.heap.size w w')
set_option maxRecDepth 100000 in
set_option maxHeartbeats 12800000 in
theorem kread_any (s : ByteArray) (w : World) (he : ErrV w) (ht : Tab w) (hs : (s.size : Int) ≤ 9223372036854775807) : Calls Tryd.prog 14 #[.string s] w (RdB s.data.toList w) := by
  obtain ⟨Q, hQ⟩ : ∃ Q, RdB s.data.toList w = Q := ⟨_, rfl⟩
  rw [hQ]
  obtain ⟨w1, hw1, XB, b1⟩ : ∃ w1, w.alloc (.cells #[.int .i64 0, .slice none 0 0] 24) = w1 ∧ Box w1 w.heap.size [.int .i64 0, .slice none 0 0] ∧ Below w.heap.size w w1 := ⟨_, rfl, Box.new _ _ [.int .i64 0, .slice none 0 0], (Below.refl _ _).alloc (Nat.le_refl _) _⟩
  have CG := Lib.hid (kguess_any s w1 (he.on b1) hs)
  have HW1 := Lib.hid hw1; have HX := Lib.hid XB; have B1 := Lib.hid b1; have HT1 := Lib.hid (ht.on b1)
  have hsx := XB.1
  clear hw1 XB b1 he
  go_enter Tryd.func14, Tryd.ntmps14
  go_upto_region 1 with fail
  rw [HW1.out]
  go_wp2_with (go_at_call 24; refine CG.out.mono ?_)
  intro e2 w2 h2
  obtain ⟨A, c, rfl, hSL, hfr, b2⟩ := h2
  have hgl : (PBank.gPay s.data.toList).length ≤ 4999 := by
    unfold PBank.gPay
    split
    · rename_i h
      rw [PBank.guessL_len]; unfold PBank.inSize at h; rw [decide_eq_true_eq] at h; unfold PBank.many; omega
    · exact Nat.zero_le _
  have HTX : Hid (PBank.isTx s.data.toList ↔ PBank.Rt (PBank.gPer s.data.toList) (PBank.gPay s.data.toList) ∧ PBank.txt (PBank.gPer s.data.toList) (PBank.gPay s.data.toList) = s.data.toList) := Lib.hid Iff.rfl
  have FY : Hid (PBank.isTx s.data.toList → ∀ w', SlX payR w' A (PBank.gPay s.data.toList).length (PBank.gPay s.data.toList) → Below w.heap.size w w' → Q (.returned (.tuple #[.agg #[.int .i64 (PBank.gPer s.data.toList), .slice A (PBank.gPay s.data.toList).length c], .int .i64 0])) w') := Lib.hid (fun h w' a b => by rw [← hQ]; exact .inl ⟨h, A, c, rfl, a, b⟩)
  have FN : Hid (¬ PBank.isTx s.data.toList → ∀ w', Below w.heap.size w w' → Q (.returned (.tuple #[.agg #[.int .i64 0, .slice none 0 0], .int .i64 2])) w') := Lib.hid (fun h w' b => by rw [← hQ]; exact .inr ⟨h, rfl, b⟩)
  obtain ⟨per, hper⟩ : ∃ z, PBank.gPer s.data.toList = z := ⟨_, rfl⟩
  obtain ⟨l, hl⟩ : ∃ z, PBank.gPay s.data.toList = z := ⟨_, rfl⟩
  rw [hper, hl] at FY HTX
  rw [hper, hl]
  dsimp only
  rw [hl] at hSL hgl
  obtain ⟨w3, hw3, FB, b3⟩ : ∃ w3, w2.alloc (.cells #[.int .i64 0, .slice none 0 0] 24) = w3 ∧ Box w3 w2.heap.size [.int .i64 0, .slice none 0 0] ∧ Below w2.heap.size w2 w3 := ⟨_, rfl, Box.new _ _ [.int .i64 0, .slice none 0 0], (Below.refl _ _).alloc (Nat.le_refl _) _⟩
  obtain ⟨w4, hw4, F4, ON4⟩ : ∃ w4, (w3.setCell ⟨w2.heap.size, 0, none⟩ (.int .i64 per)).setCell ⟨w2.heap.size, 1, none⟩ (.slice A l.length c) = w4 ∧ Box w4 w2.heap.size [.int .i64 per, .slice A l.length c] ∧ Only w2.heap.size w3 w4 := ⟨_, rfl, (FB.set 0 (by simp) _).set 1 (by simp) _, ((Only.refl _ _).set 0 _).set 1 _⟩
  have b4 : Below w2.heap.size w2 w4 := ON4.below (Nat.le_refl _) b3
  have hS4 := hSL.on b4
  have CW : Hid (∃ t z, Calls Tryd.prog 10 #[.agg #[.int .i64 per, .slice A l.length c]] w4 (WrB t z w4) ∧ (z = 0 ∧ PBank.Rt per l ∧ t = PBank.txt per l ∨ z = 1 ∧ ¬ PBank.Rt per l)) := Lib.hid (by
    by_cases hR : PBank.Rt per l
    · exact ⟨_, _, kbwrite_yes hS4 (by omega) (HT1.out.on (below_step b2 b4)) hR, .inl ⟨rfl, hR, rfl⟩⟩
    · exact ⟨_, _, kbwrite_no hS4 (by omega) hR, .inr ⟨rfl, hR⟩⟩)
  obtain ⟨t, z, CW, hz⟩ := CW.out
  have HS4 := Lib.hid hS4
  have HF4 := Lib.hid F4; have B4 := Lib.hid (below_step (below_step B1.out b2) b4)
  have HX4 := Lib.hid (HX.out.on (below_step b2 b4))
  obtain ⟨y0, y1⟩ := c2 FB
  have hz0 : w3.frozen? ⟨w2.heap.size, 0, none⟩ = false ∧ w3.frozen? ⟨w2.heap.size, 1, none⟩ = false := ⟨FB.f 0 rfl, FB.f 1 rfl⟩
  obtain ⟨z0, z1⟩ := hz0
  have hs3 := FB.1
  have HW4 := Lib.hid hw4; have CWh := Lib.hid CW
  have hL2 := HX.out.1; have hL3 := b2.size
  clear hQ hgl hper hl hSL FB F4 ON4 b3 b4 hw4 hS4 CW b2
  go_upto_region 2 with fail
  rw [HW4.out]
  clear hw3 y0 y1 z0 z1 hs3
  obtain ⟨k0, k1⟩ := c2 HF4.out
  have hk := HF4.out.1
  have hfz : ∀ a, A = some a → w.heap.size + 1 ≤ a.block := fun a h => by have := hfr a h; omega
  obtain ⟨tb, htb⟩ : ∃ z : ByteArray, (⟨t.toArray⟩ : ByteArray) = z := ⟨_, rfl⟩
  have hlow : w.heap.size < w4.heap.size := HX4.out.1
  by_cases hY : PBank.isTx s.data.toList
  · obtain ⟨hR, hT⟩ := HTX.out.1 hY
    have FY2 := Lib.hid (FY.out hY)
    obtain ⟨rfl, rfl⟩ : z = 0 ∧ t = s.data.toList := by
      rcases hz with ⟨h1, _, h2⟩ | ⟨_, h⟩
      · exact ⟨h1, h2.trans hT⟩
      · exact absurd hR h
    obtain rfl : tb = s := by rw [← htb]
    have CW2 : Hid (Calls Tryd.prog 10 #[.agg #[.int .i64 per, .slice A l.length c]] w4 fun e w' => e = .returned (.tuple #[.string tb, .int .i64 0]) ∧ Below w4.heap.size w4 w') := CWh
    clear FY FN HTX CWh hz htb hT hR hfr
    go_wp2_with (go_at_call 10; refine CW2.out.mono ?_)
    rintro _ w5 ⟨rfl, b5⟩
    have F5 := HF4.out.on b5
    obtain ⟨k0, k1⟩ := c2 F5
    have hk := F5.1
    have X5 := HX4.out.on b5
    obtain ⟨x0, x1⟩ := c2 X5
    have hxf : w5.frozen? ⟨w.heap.size, 0, none⟩ = false ∧ w5.frozen? ⟨w.heap.size, 1, none⟩ = false := ⟨X5.f 0 rfl, X5.f 1 rfl⟩
    obtain ⟨f0, f1⟩ := hxf
    have hx5 := X5.1
    obtain ⟨w9, hw9, X9, ON9⟩ : ∃ w9, (w5.setCell ⟨w.heap.size, 0, none⟩ (.int .i64 per)).setCell ⟨w.heap.size, 1, none⟩ (.slice A l.length c) = w9 ∧ Box w9 w.heap.size [.int .i64 per, .slice A l.length c] ∧ Only w.heap.size w5 w9 := ⟨_, rfl, (X5.set 0 (by simp) _).set 1 (by simp) _, ((Only.refl _ _).set 0 _).set 1 _⟩
    have HSL9 : Hid (SlX payR w9 A l.length l) := Lib.hid (by
      rw [← hw9]
      exact ((HS4.out.on b5).far (B := w.heap.size + 1) hfz (Nat.lt_succ_self _) _).far (B := w.heap.size + 1) hfz (Nat.lt_succ_self _) _)
    have B9 := Lib.hid (ON9.below (Nat.le_refl _) (below_step B4.out b5))
    obtain ⟨q0, q1⟩ := c2 X9
    have hq := X9.1
    have HW9 := Lib.hid hw9
    clear F5 X5 X9 ON9 hw9 b5 hfz
    go_wp2_with fail
    rw [HW9.out]
    clear x0 x1 f0 f1 hx5 k0 k1 hk
    refine bodyPost_ret (by simp [results, Tryd.results14, go_sem, q0, q1]; try rfl) rfl ?_
    exact FY2.out _ HSL9.out B9.out
  · have FN2 := Lib.hid (FN.out hY)
    have TAIL : Hid (∀ w5, Below w4.heap.size w4 w5 → ∃ w9, (w5.setCell ⟨w.heap.size, 0, none⟩ (.int .i64 0)).setCell ⟨w.heap.size, 1, none⟩ (.slice none 0 0) = w9 ∧ Box w5 w.heap.size [.int .i64 0, .slice none 0 0] ∧ Box w9 w.heap.size [.int .i64 0, .slice none 0 0] ∧ Below w.heap.size w w9) := Lib.hid (fun w5 b5 => by
      have X5 := HX4.out.on b5
      exact ⟨_, rfl, X5, (X5.set 0 (by simp) _).set 1 (by simp) _, (((Only.refl _ _).set 0 _).set 1 _ : Only w.heap.size w5 _).below (Nat.le_refl _) (below_step B4.out b5)⟩)
    rcases hz with ⟨rfl, hR, ht2⟩ | ⟨rfl, _⟩
    · have hne2 : (tb.toList == s.toList) = false := bytes_ne htb.symm (fun e => hY (HTX.out.2 ⟨hR, ht2.symm.trans e⟩))
      have CW2 : Hid (Calls Tryd.prog 10 #[.agg #[.int .i64 per, .slice A l.length c]] w4 fun e w' => e = .returned (.tuple #[.string tb, .int .i64 0]) ∧ Below w4.heap.size w4 w') := Lib.hid (by rw [← htb]; exact CWh.out)
      clear FY FN HTX CWh htb ht2 hR hfr hfz HX4 HS4
      go_wp2_with (go_at_call 10; refine CW2.out.mono ?_)
      rintro _ w5 ⟨rfl, b5⟩
      obtain ⟨w9, hw9, X5, X9, b9⟩ := TAIL.out _ b5
      obtain ⟨x0, x1⟩ := c2 X5
      have hxf : w5.frozen? ⟨w.heap.size, 0, none⟩ = false ∧ w5.frozen? ⟨w.heap.size, 1, none⟩ = false := ⟨X5.f 0 rfl, X5.f 1 rfl⟩
      obtain ⟨f0, f1⟩ := hxf
      have hx5 := X5.1
      obtain ⟨q0, q1⟩ := c2 X9
      have hq := X9.1
      have HW9 := Lib.hid hw9; have B9 := Lib.hid b9
      clear X5 X9 hw9 b5 b9 k0 k1 hk
      go_wp2_with fail
      rw [HW9.out]
      clear x0 x1 f0 f1 hx5
      refine bodyPost_ret (by simp [results, Tryd.results14, go_sem, q0, q1]; try rfl) rfl ?_
      exact FN2.out _ B9.out
    · have CW2 : Hid (Calls Tryd.prog 10 #[.agg #[.int .i64 per, .slice A l.length c]] w4 fun e w' => e = .returned (.tuple #[.string tb, .int .i64 1]) ∧ Below w4.heap.size w4 w') := Lib.hid (by rw [← htb]; exact CWh.out)
      clear FY FN HTX CWh htb hfr hfz HX4 HS4
      go_wp2_with (go_at_call 10; refine CW2.out.mono ?_)
      rintro _ w5 ⟨rfl, b5⟩
      obtain ⟨w9, hw9, X5, X9, b9⟩ := TAIL.out _ b5
      obtain ⟨x0, x1⟩ := c2 X5
      have hxf : w5.frozen? ⟨w.heap.size, 0, none⟩ = false ∧ w5.frozen? ⟨w.heap.size, 1, none⟩ = false := ⟨X5.f 0 rfl, X5.f 1 rfl⟩
      obtain ⟨f0, f1⟩ := hxf
      have hx5 := X5.1
      obtain ⟨q0, q1⟩ := c2 X9
      have hq := X9.1
      have HW9 := Lib.hid hw9; have B9 := Lib.hid b9
      clear X5 X9 hw9 b5 b9 k0 k1 hk
      go_wp2_with fail
      rw [HW9.out]
      clear x0 x1 f0 f1 hx5
      refine bodyPost_ret (by simp [results, Tryd.results14, go_sem, q0, q1]; try rfl) rfl ?_
      exact FN2.out _ B9.out
end Go.Proofs.YtbnnmakmgleikaaDoor
