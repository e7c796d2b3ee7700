/-
  OrderChain: rules of which each hangs on the next one are in the order from the last to the first one; if the last one hangs on the first one there is none.
-/
import Derived.Test.YtdkcdgjpcojdfaaGreatDoorOrdDigsG
import Derived.Test.YtdkcdgjpcojdfaaGreatDoorOrdChainG
import Derived.Test.YtdkcdgjpcojdfaaGreatDoorOrdFitG

set_option linter.unusedVariables false
namespace Go.Proofs.YtdkcdgjpcojdfaaGreatDoor
open Go.RowKit
open PTree (R Ex Tr Rl Row)
open PCheck (Xp Bd)

/-- The order's places, as they come. -/
theorem back_at {q j : Nat} (hj : j < q + 1) : (plI ((List.range (q + 1)).map (fun i => q + 1 - 1 - i)))[j]? = some ((q : Int) - (j : Int)) := by
  unfold plI
  simp [hj]
  omega
set_option maxRecDepth 100000 in
set_option maxHeartbeats 12800000 in
theorem ochain_walk (n : Int) (rd : Bool) (w : World) (ht : Tab2 w) (hn : (Lit.int .u8 n).wf = true) :
    Calls Tryz.prog 6 #[.int .u8 n, .bool rd] w (BoolAns true w) := by
  obtain ⟨h0, h1⟩ := u8_bounds hn
  obtain ⟨q, hq⟩ : ∃ q : Nat, n % 40 = (q : Int) := ⟨(n % 40).toNat, by omega⟩
  have hq4 : q < 40 := by omega
  have hqt : n.tmod 40 = (q : Int) := by rw [Int.tmod_eq_emod_of_nonneg h0]; exact hq
  obtain ⟨Q, hQ⟩ : ∃ Q, BoolAns true w = Q := ⟨_, rfl⟩
  rw [hQ]
  have FIN : Hid (∀ (w' : World), Below w.heap.size w w' → Q (.returned (.bool true)) w') := Lib.hid (fun w' a => by rw [← hQ]; exact ⟨rfl, a⟩)
  have HT := Lib.hid ht
  clear hQ ht hn hq
  go_enter Tryz.func6, Tryz.ntmps6
  go_wp2_with fail
  go_loopw [6, 21] (fun s i wr => ∃ (t : Nat) (y : List UInt8), t ≤ q + 1 ∧ i = .int .i64 t ∧ s = .string ⟨y.toArray⟩ ∧ y.length ≤ 18 * t ∧ Hid (y = PTree.txs [10] (PTree.chL (q + 1) rd t)) ∧ Hid (Below w.heap.size w wr)) (fun _ i _ => q + 1 - (intOf i).toNat)
  case atStart => exact ⟨0, [], Nat.zero_le _, rfl, rfl, Nat.le_refl _, Lib.hid rfl, Lib.hid (Below.refl _ _)⟩
  case round =>
    obtain ⟨t, y, ht, rfl, rfl, hy, HY, HB⟩ := hrel
    by_cases hlt : t < q + 1
    · have gl : (t : Int) < 1 + (q : Int) := by omega
      have D1 := Lib.hid (kdigits_any wr (i := t) (by omega))
      have HNX : Hid (PTree.txs [10] (PTree.chL (q + 1) rd (t + 1)) = y ++ ((PTree.chI (q + 1) rd t).tx ++ [10])) := Lib.hid (by rw [PTree.chL_snoc, PTree.txs_snoc, HY.out])
      have hl2 : (PTree.txs [10] (PTree.chL (q + 1) rd (t + 1))).length ≤ 18 * (t + 1) := by
        have := PTree.txs_len (sep := [10]) (Nat.le_refl _) _ (PTree.chL_ok (m := q + 1) (by omega) rd (t := t + 1) (by omega))
        rwa [PTree.chL_len] at this
      clear HY
      have hd1 := PTree.digI_len t
      have hd2 := PTree.digI_len (t + 1)
      have hy8 : y.length ≤ 800 := by omega
      by_cases h2 : t < q
      · have g2 : (t : Int) < (q : Int) := by omega
        have HCI : Hid (PTree.chI (q + 1) rd t = ⟨PTree.letW, PTree.nmI t, 1, PTree.nmI (t + 1), .name (PTree.nmI (t + 1))⟩) := Lib.hid (by unfold PTree.chI; rw [if_pos (by omega)])
        go_wp2_with (go_at_call 20; refine D1.out.mono ?_)
        intro e1 w1 h1
        obtain ⟨rfl, b1⟩ := h1
        have B1 := Lib.hid (below_step HB.out b1)
        have D2 := Lib.hid (kdigits_any w1 (i := t + 1) (by omega))
        clear b1 D1 HB
        go_wp2_with (go_at_call 20; refine D2.out.mono ?_)
        intro e2 w2 h2
        obtain ⟨rfl, b2⟩ := h2
        have B2 := Lib.hid (below_step B1.out b2)
        clear b2 D2 B1
        go_wp2_with fail
        refine ⟨⟨t + 1, _, hlt, rfl, congrArg Value.string (?_ : _ = (⟨(PTree.txs [10] (PTree.chL (q + 1) rd (t + 1))).toArray⟩ : ByteArray)), hl2, Lib.hid rfl, B2⟩, by simp [intOf]; omega⟩
        rw [HNX.out, HCI.out]
        apply ByteArray.ext
        simp [PTree.It.tx, PTree.letW, PTree.nmI]
      · have g2 : ¬ (t : Int) < (q : Int) := by omega
        cases rd with
        | true =>
          have HCI : Hid (PTree.chI (q + 1) true t = ⟨PTree.letW, PTree.nmI t, 1, PTree.nmI 0, .name (PTree.nmI 0)⟩) := Lib.hid (by unfold PTree.chI; rw [if_neg (by omega), if_pos rfl])
          go_wp2_with (go_at_call 20; refine D1.out.mono ?_)
          intro e1 w1 h1
          obtain ⟨rfl, b1⟩ := h1
          have B1 := Lib.hid (below_step HB.out b1)
          clear b1 D1 HB
          go_wp2_with fail
          refine ⟨⟨t + 1, _, hlt, rfl, congrArg Value.string (?_ : _ = (⟨(PTree.txs [10] (PTree.chL (q + 1) true (t + 1))).toArray⟩ : ByteArray)), hl2, Lib.hid rfl, B1⟩, by simp [intOf]; omega⟩
          rw [HNX.out, HCI.out]
          apply ByteArray.ext
          simp [PTree.It.tx, PTree.letW, PTree.nmI, PTree.digI]
        | false =>
          have HCI : Hid (PTree.chI (q + 1) false t = ⟨PTree.letW, PTree.nmI t, 2, [49], .whole 1⟩) := Lib.hid (by unfold PTree.chI; rw [if_neg (by omega), if_neg (by decide)])
          go_wp2_with (go_at_call 20; refine D1.out.mono ?_)
          intro e1 w1 h1
          obtain ⟨rfl, b1⟩ := h1
          have B1 := Lib.hid (below_step HB.out b1)
          clear b1 D1 HB
          go_wp2_with fail
          refine ⟨⟨t + 1, _, hlt, rfl, congrArg Value.string (?_ : _ = (⟨(PTree.txs [10] (PTree.chL (q + 1) false (t + 1))).toArray⟩ : ByteArray)), hl2, Lib.hid rfl, B1⟩, by simp [intOf]; omega⟩
          rw [HNX.out, HCI.out]
          apply ByteArray.ext
          simp [PTree.It.tx, PTree.letW, PTree.nmI]
    · obtain rfl : t = q + 1 := by omega
      have gl : ¬ ((q + 1 : Nat) : Int) < 1 + (q : Int) := by omega
      have hok := PTree.chL_ok (m := q + 1) (by omega) rd (t := q + 1) (by omega)
      have hcl := PTree.chL_len (q + 1) rd (q + 1)
      have PR := Lib.hid (parse_ans (.inr rfl) hok (by omega) wr hcl)
      have HFT := Lib.hid (fit_items (sep := [10]) (.inr rfl) hok (by omega))
      rw [← HY.out] at PR
      obtain ⟨rs, hrs⟩ : ∃ rs, (PTree.chL (q + 1) rd (q + 1)).map PTree.It.rl = rs := ⟨_, rfl⟩
      have HRS := Lib.hid hrs
      rw [hrs] at PR HFT
      obtain ⟨m, hm⟩ : ∃ m, q + 1 = m := ⟨_, rfl⟩
      rw [hm] at PR
      have hmi : 1 + (q : Int) = (m : Int) := by omega
      have hm4 : m ≤ 40 := by omega
      have HMM := Lib.hid hm
      obtain ⟨wo, hwo⟩ : ∃ wo, wo = wr := ⟨_, rfl⟩
      subst hwo
      clear hok hcl hrs hm HY hlt ht
      go_wp2_with (go_at_call 10; refine PR.out.mono ?_)
      intro e5 w5 h5
      obtain ⟨A2, ca2, B2, cb2, rfl, hcb2, s3, s4, b5⟩ := h5
      obtain ⟨w6, hw6, YB, b6⟩ : ∃ w6, w5.alloc (.cells #[.slice none 0 0, .slice none 0 0] 32) = w6 ∧ Box w6 w5.heap.size [.slice none 0 0, .slice none 0 0] ∧ Below w5.heap.size w5 w6 := ⟨_, rfl, Box.new _ _ [.slice none 0 0, .slice none 0 0], (Below.refl _ _).alloc (Nat.le_refl _) _⟩
      obtain ⟨w7, hw7, Y7, ON7⟩ := store2 YB (.slice A2 m ca2) (.slice B2 m cb2)
      have b7 := ON7.below (Nat.le_refl _) b6
      have B7 := Lib.hid (below_step HB.out (below_step b5 b7))
      have HT7 := Lib.hid (HT.out.on B7.out)
      have CS := Lib.hid (ksort_any (rc := ca2) (c := cb2) HFT.out (s3.on b7) (s4.on b7) hcb2 HT7.out)
      obtain ⟨y0, y1⟩ := px2 YB
      obtain ⟨z0, z1⟩ := px2f YB
      have hs6 := YB.1
      obtain ⟨q0, q1⟩ := px2 Y7
      have hs7 := Y7.1
      have HW7 := Lib.hid hw7
      clear YB Y7 ON7 b5 b6 b7 hw7 PR s3 s4 hcb2 HB
      go_upto_region 15 with fail
      rw [HW7.out]
      clear HW7 hw6 y0 y1 z0 z1 hs6
      cases rd with
      | true =>
        have CS := Lib.hid (by have h := CS.out; rw [← HRS.out, round_ans (by omega) (by omega)] at h; exact h)
        clear HRS HFT HMM
        go_wp2_with (go_at_call 11; refine CS.out.mono ?_)
        intro e8 w8 h8
        obtain ⟨LA, lc, rfl, -, -, b8⟩ := h8
        have B8 := Lib.hid (below_step B7.out b8)
        have AW := Lib.hid (aw11_any w8 (HT.out.on B8.out))
        clear b8 q0 q1 hs7 CS B7 HT7
        go_wp2_with (go_at_call 8; refine AW.out.mono ?_)
        intro e9 w9 h9
        obtain ⟨rfl, b9⟩ := h9
        have B9 := Lib.hid (below_step B8.out b9)
        clear b9 AW
        go_wp2_with fail
        exact FIN.out _ B9.out
      | false =>
        have CS := Lib.hid (by have h := CS.out; rw [← HRS.out, chain_ans (by omega)] at h; exact h)
        obtain ⟨L, hL⟩ : ∃ L, (List.range (q + 1)).map (fun i => q + 1 - 1 - i) = L := ⟨_, rfl⟩
        have HBA : Hid (∀ j, j < m → (plI L)[j]? = some ((q : Int) - (j : Int))) := Lib.hid (fun j hj => by rw [← hL]; exact back_at (by rw [HMM.out]; exact hj))
        have hLl : L.length = m := by rw [← hL, List.length_map, List.length_range, HMM.out]
        rw [hL] at CS
        have HLL := Lib.hid hLl
        clear HRS HFT HMM hL hLl
        go_wp2_with (go_at_call 11; refine CS.out.mono ?_)
        intro e8 w8 h8
        obtain ⟨LA, lc, rfl, sl, -, b8⟩ := h8
        simp only [] at sl ⊢
        rw [HLL.out] at sl ⊢
        have B8 := Lib.hid (below_step B7.out b8)
        have SL := Lib.hid sl
        clear b8 q0 q1 hs7 CS B7 HT7 sl HLL
        go_wp2_with fail
        go_loopw [81] (fun i wr => ∃ j : Nat, j ≤ m ∧ i = .int .i64 j ∧ Hid (Below w8.heap.size w8 wr)) (fun i _ => m - (intOf i).toNat)
        case atStart => exact ⟨0, Nat.zero_le _, rfl, Lib.hid (Below.refl _ _)⟩
        case round =>
          obtain ⟨j, hj, rfl, I1⟩ := hrel
          by_cases hlt : j < m
          · obtain ⟨b1, o1, x, rfl, hx, c1⟩ := int_at (SL.out.on I1.out) hlt
            rw [HBA.out j hlt] at hx
            obtain rfl := Option.some.inj hx
            have s1 := World.block_lt_of_cell? wr _ c1
            have gl : (j : Int) < (m : Int) := by omega
            have gx : ((q : Int) - (j : Int) != (q : Int) - (j : Int)) = false := by simp
            clear hx
            go_wp2_with fail
            exact ⟨⟨j + 1, by omega, rfl, I1⟩, by simp [intOf]; omega⟩
          · obtain rfl : j = m := by omega
            have gl : ¬ (j : Int) < (j : Int) := by omega
            have AW := Lib.hid (aw11_any wr (HT.out.on (below_step B8.out I1.out)))
            clear hlt
            go_wp2_with (go_at_call 8; refine AW.out.mono ?_)
            intro e9 w9 h9
            obtain ⟨rfl, b9⟩ := h9
            have B9 := Lib.hid (below_step (below_step B8.out I1.out) b9)
            clear b9 AW
            go_wp2_with fail
            exact FIN.out _ B9.out
end Go.Proofs.YtdkcdgjpcojdfaaGreatDoor
