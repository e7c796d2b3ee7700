/-
  ShowBare: a program's text has no more ( than the text that it was read of.
-/
import Derived.Test.YtpakepapjnakgaaDoorLR
import Derived.Deep.RegionHeld3

set_option linter.unusedVariables false
namespace Go.Proofs.YtpakepapjnakgaaDoor
open Go.RowKit
open PTree (R Ex Tr Rl Row)
open PCheck (Xp)

/-- How many of a byte there are among the first ones. -/
def cntTo (c : UInt8) (y : ByteArray) (k : Nat) : Nat := (y.data.toList.take k).count c
theorem cntTo_step {c : UInt8} {y : ByteArray} {k : Nat} (h : k < y.size) : cntTo c y (k + 1) = cntTo c y k + if y[k] = c then 1 else 0 := by
  have hl : k < y.data.toList.length := by rw [Array.length_toList]; exact h
  unfold cntTo
  rw [List.take_succ_eq_append_getElem hl, List.count_append]
  congr 1
  rw [List.count_singleton]
  have e : y.data.toList[k] = y[k] := by rw [Array.getElem_toList]; rfl
  rw [e]
  by_cases h : y[k] = c
  · rw [if_pos h]; simp [h]
  · rw [if_neg h]; simp [h]
theorem cntTo_all (c : UInt8) (y : ByteArray) : cntTo c y y.size = y.data.toList.count c := by
  unfold cntTo
  rw [List.take_of_length_le (by rw [Array.length_toList]; exact Nat.le_refl _)]
theorem cntTo_le (c : UInt8) (y : ByteArray) (k : Nat) : cntTo c y k ≤ k := by
  unfold cntTo
  refine Nat.le_trans List.count_le_length ?_
  rw [List.length_take]; omega
set_option maxRecDepth 100000 in
set_option maxHeartbeats 12800000 in
theorem bare9_walk (s : ByteArray) (w : World) (ht : Tab w) (hs : s.size ≤ maxLen) :
    Calls Tryd.prog 5 #[.string s] w (Yes w) := by
  obtain ⟨Q, hQ⟩ : ∃ Q, Yes w = Q := ⟨_, rfl⟩
  rw [hQ]
  have FIN : Hid (∀ (w' : World), Below w.heap.size w w' → Q (.returned (.bool true)) w') := Lib.hid (fun w' a => by rw [← hQ]; exact ⟨rfl, a⟩)
  have HT := Lib.hid ht
  unfold maxLen at hs
  clear hQ ht
  by_cases h6 : 300 < s.size
  · have hl : (300 : Int) < (s.size : Int) := by omega
    have AW := Lib.hid (aw9_yes w HT.out)
    go_enter Tryd.func5, Tryd.ntmps5
    go_wp2_with (go_at_call 8; refine AW.out.mono ?_)
    intro e1 w1 h1
    obtain ⟨rfl, b1⟩ := h1
    have B1 := Lib.hid b1
    clear b1 AW
    go_wp2_with fail
    exact FIN.out _ B1.out
  have hl : ¬ (300 : Int) < (s.size : Int) := by omega
  cases hp : PTree.parse s.data.toList with
  | none =>
    have PA := Lib.hid (tparse_any s w (by omega))
    have HP := Lib.hid hp
    clear hp
    go_enter Tryd.func5, Tryd.ntmps5
    go_wp2_with (go_at_call 9; refine PA.out.mono ?_)
    intro e1 w1 h1
    obtain ⟨-, h1⟩ := h1
    rw [HP.out] at h1
    exact h1.elim
  | some r =>
    cases r with
    | bad k q =>
      have PA := Lib.hid (tparse_any s w (by omega))
      have HP := Lib.hid hp
      clear hp
      go_enter Tryd.func5, Tryd.ntmps5
      go_wp2_with (go_at_call 9; refine PA.out.mono ?_)
      intro e1 w1 h1
      obtain ⟨b1, h1⟩ := h1
      rw [HP.out] at h1
      obtain ⟨rfl, hk0⟩ := h1
      obtain ⟨w2, hw2, YB, b2⟩ : ∃ w2, w1.alloc (.cells #[.slice none 0 0, .slice none 0 0] 26) = w2 ∧ Box w2 w1.heap.size [.slice none 0 0, .slice none 0 0] ∧ Below w1.heap.size w1 w2 := ⟨_, rfl, Box.new _ _ [.slice none 0 0, .slice none 0 0], (Below.refl _ _).alloc (Nat.le_refl _) _⟩
      obtain ⟨w3, hw3, Y3, ON3⟩ := store2 YB (.slice none 0 0) (.slice none 0 0)
      have b3 := ON3.below (Nat.le_refl _) b2
      have B3 := Lib.hid (below_step b1 b3)
      have AW := Lib.hid (aw9_yes w3 (HT.out.on B3.out))
      obtain ⟨y0, y1⟩ := px2 YB
      obtain ⟨z0, z1⟩ := px2f YB
      have hs2 := YB.1
      obtain ⟨q0, q1⟩ := px2 Y3
      have hs3 := Y3.1
      have HW3 := Lib.hid hw3
      have gk : ((k : Int) == 0) = false := by rw [beq_eq_false_iff_ne]; omega
      clear YB Y3 ON3 b1 b2 b3 hw3 PA
      go_upto_region 4 with fail
      rw [HW3.out]
      clear HW3 hw2 y0 y1 z0 z1 hs2
      go_wp2_with (go_at_call 8; refine AW.out.mono ?_)
      intro e4 w4 h4
      obtain ⟨rfl, b4⟩ := h4
      have B4 := Lib.hid (below_step B3.out b4)
      clear b4 AW
      go_wp2_with fail
      exact FIN.out _ B4.out
    | ok t rs =>
      obtain ⟨rl, hrl⟩ : ∃ rl, rs.length = rl := ⟨_, rfl⟩
      obtain ⟨sz, hsz⟩ : ∃ sz, PTree.sizeOf rs = sz := ⟨_, rfl⟩
      have hsl : s.data.toList.length ≤ 500 := by rw [Array.length_toList]; show s.size ≤ 500; omega
      have PA := Lib.hid (tparse_rows hp (by omega) w hrl hsz)
      obtain ⟨T, hT⟩ : ∃ T, PTree.textB rs = T := ⟨_, rfl⟩
      have TX := Lib.hid (fun (wa : World) (A B : Option Addr) (ca cb : Nat) (h1 : SlX rowR wa A rl (PTree.rowsOf 0 rs)) (h2 : SlX exR wa B sz (PTree.exprsOf 0 rs)) (h3 : Tab wa) => ptext (rc := ca) (c := cb) hp hsl h1 h2 h3)
      have hlen := (PShow.got hp).len
      rw [hT] at TX hlen
      have HP := Lib.hid hp; have HTT := Lib.hid hT; have HRL := Lib.hid hrl; have HSZ := Lib.hid hsz
      have hln : T.length ≤ 1500 := by omega
      clear hp hlen hT hrl hsz hsl
      go_enter Tryd.func5, Tryd.ntmps5
      go_wp2_with (go_at_call 9; refine PA.out.mono ?_)
      intro e1 w1 h1
      obtain ⟨A1, ca1, B1, cb1, rfl, s1, s2, b1⟩ := h1
      obtain ⟨w2, hw2, YB, b2⟩ : ∃ w2, w1.alloc (.cells #[.slice none 0 0, .slice none 0 0] 26) = w2 ∧ Box w2 w1.heap.size [.slice none 0 0, .slice none 0 0] ∧ Below w1.heap.size w1 w2 := ⟨_, rfl, Box.new _ _ [.slice none 0 0, .slice none 0 0], (Below.refl _ _).alloc (Nat.le_refl _) _⟩
      obtain ⟨w3, hw3, Y3, ON3⟩ := store2 YB (.slice A1 rl ca1) (.slice B1 sz cb1)
      have b3 := ON3.below (Nat.le_refl _) b2
      have B3 := Lib.hid (below_step b1 b3)
      have S1 := Lib.hid (s1.on b3); have S2 := Lib.hid (s2.on b3)
      have T3 := HT.out.on B3.out
      have TX3 := Lib.hid (TX.out w3 A1 B1 ca1 cb1 S1.out S2.out T3)
      have HT3 := Lib.hid T3
      have HY3 := Lib.hid Y3
      obtain ⟨y0, y1⟩ := px2 YB
      obtain ⟨z0, z1⟩ := px2f YB
      have hs2 := YB.1
      obtain ⟨q0, q1⟩ := px2 Y3
      have hs3 := Y3.1
      have HW3 := Lib.hid hw3
      clear YB Y3 ON3 b1 b2 b3 hw3 PA s1 s2 T3
      go_upto_region 4 with fail
      rw [HW3.out]
      clear HW3 hw2 y0 y1 z0 z1 hs2
      go_wp2_with (go_at_call 10; refine TX3.out.mono ?_)
      intro e4 w4 h4
      obtain ⟨rfl, b4⟩ := h4
      have B4 := Lib.hid (below_step B3.out b4)
      have HY4 := Lib.hid (HY3.out.on b4)
      have HT4 := Lib.hid (HT3.out.on b4)
      have AW := Lib.hid (fun (wa : World) (h : Below w4.heap.size w4 wa) => aw9_yes wa (HT4.out.on h))
      clear b4 TX3 S1 S2 HY3 HT3 q0 q1 hs3 TX
      have hbare : T.count 40 ≤ s.data.toList.count 40 := by rw [← HTT.out]; exact PTree.text_bare HP.out
      obtain ⟨y, hy⟩ : ∃ y : ByteArray, (⟨T.toArray⟩ : ByteArray) = y := ⟨_, rfl⟩
      have hyT : y.data.toList = T := by rw [← hy]
      have hysz : y.size ≤ 1500 := by show y.data.size ≤ 1500; rw [← Array.length_toList, hyT]; exact hln
      dsimp only
      rw [hy]
      have HYT := Lib.hid hyT; have HBR := Lib.hid hbare
      clear hyT hy hbare hln
      go_upto_region 8 with fail
      go_wp2_with fail
      go_loopw [8, 38] (fun o i wx => ∃ k : Nat, i = .int .i64 k ∧ o = .int .i64 (cntTo 40 y k : Nat) ∧ k ≤ y.size ∧ Hid (Below w4.heap.size w4 wx)) (fun _ i _ => y.size - (intOf i).toNat)
      case atStart => exact ⟨0, rfl, rfl, Nat.zero_le _, Lib.hid (Below.refl _ _)⟩
      case round =>
        obtain ⟨k, rfl, rfl, hk, I1⟩ := hrel
        by_cases hkn : k < y.size
        · have hstep := cntTo_step (c := 40) hkn
          have hle := cntTo_le 40 y k
          obtain ⟨ck, hck⟩ : ∃ ck, cntTo 40 y k = ck := ⟨_, rfl⟩
          rw [hck] at hstep hle ⊢
          have gk : (k : Int) < (y.size : Int) := by omega
          by_cases hc : y[k] = 40
          · rw [if_pos hc] at hstep
            have HS := Lib.hid hstep
            clear hstep hck
            go_wp2_with fail
            exact ⟨⟨k + 1, by congr 1, by rw [HS.out]; congr 1, by omega, I1⟩, by simp [intOf]; omega⟩
          · rw [if_neg hc] at hstep
            have HS := Lib.hid hstep
            have hb : (y[k] == 40) = false := by rw [beq_eq_false_iff_ne]; exact hc
            have hb2 : ((y[k].toNat : Int) == 40) = false := by
              rw [beq_eq_false_iff_ne]; intro e; apply hc
              apply UInt8.toNat_inj.1; show y[k].toNat = 40; omega
            clear hstep hck
            go_wp2_with fail
            exact ⟨⟨k + 1, by congr 1, by rw [HS.out]; congr 1, by omega, I1⟩, by simp [intOf]; omega⟩
        · obtain rfl : k = y.size := by omega
          obtain ⟨wo, hwo⟩ : ∃ wo, wo = wr := ⟨_, rfl⟩
          subst hwo
          have gk : ¬ (y.size : Int) < (y.size : Int) := by omega
          obtain ⟨A, hA⟩ : ∃ A, cntTo 40 y y.size = A := ⟨_, rfl⟩
          rw [hA]
          have hAs : A ≤ s.data.toList.count 40 := by rw [← hA, cntTo_all, HYT.out]; exact HBR.out
          have HAS := Lib.hid hAs
          clear hA hAs hk
          go_wp2_with fail
          go_loopw [9, 50] (fun o i wx => ∃ k : Nat, i = .int .i64 k ∧ o = .int .i64 (cntTo 40 s k : Nat) ∧ k ≤ s.size ∧ Hid (Below w4.heap.size w4 wx)) (fun _ i _ => s.size - (intOf i).toNat)
          case atStart => exact ⟨0, rfl, rfl, Nat.zero_le _, I1⟩
          case round =>
            obtain ⟨k, rfl, rfl, hk, I2⟩ := hrel
            by_cases hkn : k < s.size
            · have hstep := cntTo_step (c := 40) hkn
              have hle := cntTo_le 40 s k
              obtain ⟨ck, hck⟩ : ∃ ck, cntTo 40 s k = ck := ⟨_, rfl⟩
              rw [hck] at hstep hle ⊢
              have gk : (k : Int) < (s.size : Int) := by omega
              by_cases hc : s[k] = 40
              · rw [if_pos hc] at hstep
                have HS := Lib.hid hstep
                clear hstep hck
                go_wp2_with fail
                exact ⟨⟨k + 1, by congr 1, by rw [HS.out]; congr 1, by omega, I2⟩, by simp [intOf]; omega⟩
              · rw [if_neg hc] at hstep
                have HS := Lib.hid hstep
                have hb : (s[k] == 40) = false := by rw [beq_eq_false_iff_ne]; exact hc
                have hb2 : ((s[k].toNat : Int) == 40) = false := by
                  rw [beq_eq_false_iff_ne]; intro e; apply hc
                  apply UInt8.toNat_inj.1; show s[k].toNat = 40; omega
                clear hstep hck
                go_wp2_with fail
                exact ⟨⟨k + 1, by congr 1, by rw [HS.out]; congr 1, by omega, I2⟩, by simp [intOf]; omega⟩
            · obtain rfl : k = s.size := by omega
              obtain ⟨B, hB⟩ : ∃ B, cntTo 40 s s.size = B := ⟨_, rfl⟩
              rw [hB]
              have hAB : A ≤ B := by rw [← hB, cntTo_all]; exact HAS.out
              have gAB : (A : Int) ≤ (B : Int) := by omega
              have gk : ¬ (s.size : Int) < (s.size : Int) := by omega
              have AW2 := Lib.hid (AW.out wr I2.out)
              clear hB hAB hk
              go_wp2_with (go_at_call 8; refine AW2.out.mono ?_)
              intro e5 w5 h5
              obtain ⟨rfl, b5⟩ := h5
              have B5 := Lib.hid (below_step (below_step B4.out I2.out) b5)
              clear b5 AW2
              go_wp2_with fail
              exact FIN.out _ B5.out
end Go.Proofs.YtpakepapjnakgaaDoor
