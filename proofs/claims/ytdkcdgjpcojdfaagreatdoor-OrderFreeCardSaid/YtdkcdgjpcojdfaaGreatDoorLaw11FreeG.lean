/-
  OrderFree: rules that hang on none are in their order; all are checked to be Money, if they are earned.
-/
import Derived.Test.YtdkcdgjpcojdfaaGreatDoorOrdDigsG
import Derived.Test.YtdkcdgjpcojdfaaGreatDoorOrdChainG
import Derived.Test.YtdkcdgjpcojdfaaGreatDoorOrdFitG
import Derived.Test.YtdkcdgjpcojdfaaGreatDoorOrdCheckG
import Derived.Test.YtdkcdgjpcojdfaaGreatDoorBoolRowG

set_option linter.unusedVariables false
namespace Go.Proofs.YtdkcdgjpcojdfaaGreatDoor
open Go.RowKit
open PTree (R Ex Tr Rl Row)
open PCheck (Xp Bd)

/-- Which flag is the first that is false. -/
def FirstNo (f : Nat → Bool) (t : Nat) (z : Int) : Prop := (z = -1 ∧ ∀ j, j < t → f j = true) ∨ ∃ j0 : Nat, j0 < t ∧ z = (j0 : Int) ∧ f j0 = false ∧ ∀ j, j < j0 → f j = true
theorem first_yes {f : Nat → Bool} {t : Nat} {z : Int} (h : FirstNo f t z) (hf : f t = true) : FirstNo f (t + 1) z := by
  rcases h with ⟨h1, h2⟩ | ⟨j0, h1, h2, h3, h4⟩
  · exact .inl ⟨h1, fun j hj => by
      by_cases e : j = t
      · rw [e]; exact hf
      · exact h2 j (by omega)⟩
  · exact .inr ⟨j0, by omega, h2, h3, h4⟩
theorem first_old {f : Nat → Bool} {t : Nat} {z : Int} (h : FirstNo f t z) (hz : 0 ≤ z) : FirstNo f (t + 1) z := by
  rcases h with ⟨h1, h2⟩ | ⟨j0, h1, h2, h3, h4⟩
  · omega
  · exact .inr ⟨j0, by omega, h2, h3, h4⟩
theorem first_new {f : Nat → Bool} {t : Nat} {z : Int} (h : FirstNo f t z) (hz : z < 0) (hf : f t = false) : FirstNo f (t + 1) (t : Int) := by
  rcases h with ⟨h1, h2⟩ | ⟨j0, h1, h2, h3, h4⟩
  · exact .inr ⟨t, by omega, rfl, hf, h2⟩
  · omega
theorem first_size {f : Nat → Bool} {t : Nat} {z : Int} (h : FirstNo f t z) : -1 ≤ z ∧ z ≤ (t : Int) := by
  rcases h with ⟨h1, h2⟩ | ⟨j0, h1, h2, h3, h4⟩ <;> omega
theorem line_at {q j : Nat} (hj : j < q) : (plI (List.range q))[j]? = some (j : Int) := by
  unfold plI
  simp [hj]
set_option maxRecDepth 100000 in
set_option maxHeartbeats 12800000 in
theorem ofree_walk {A : Option Addr} {n cap : Nat} {l : List Bool} (w : World) (ht : Tab2 w) (hA : SlX boolR w A n l) (hn : (n : Int) ≤ 9223372036854775807) :
    Calls Tryz.prog 7 #[.slice A n cap] w (BoolAns true w) := by
  obtain ⟨Q, hQ⟩ : ∃ Q, BoolAns true w = Q := ⟨_, rfl⟩
  rw [hQ]
  have FIN : Hid (∀ (w' : World), Below w.heap.size w w' → Q (.returned (.bool true)) w') := Lib.hid (fun w' a => by rw [← hQ]; exact ⟨rfl, a⟩)
  have HT := Lib.hid ht
  have HA := Lib.hid hA
  clear hQ ht hA
  by_cases h6 : 40 < n
  · have hl : (40 : Int) < (n : Int) := by omega
    have AW := Lib.hid (aw11_any w HT.out)
    go_enter Tryz.func7, Tryz.ntmps7
    go_wp2_with (go_at_call 8; refine AW.out.mono ?_)
    intro e1 w1 h1
    obtain ⟨rfl, b1⟩ := h1
    have B1 := Lib.hid b1
    clear b1 AW
    go_wp2_with fail
    exact FIN.out _ B1.out
  have hl : ¬ (40 : Int) < (n : Int) := by omega
  have hn4 : n ≤ 40 := by omega
  obtain ⟨f, hf⟩ : ∃ f : Nat → Bool, f = fun j => l.getD j false := ⟨_, rfl⟩
  have HF := Lib.hid hf
  clear hf hn h6
  go_enter Tryz.func7, Tryz.ntmps7
  go_wp2_with fail
  go_loopw [3, 4, 25] (fun s z i wr => ∃ (t : Nat) (y : List UInt8) (fi : Int), t ≤ n ∧ i = .int .i64 t ∧ z = .int .i64 fi ∧ s = .string ⟨y.toArray⟩ ∧ y.length ≤ 18 * t ∧ Hid (y = PTree.txs [] (PTree.frL f t)) ∧ Hid (FirstNo f t fi) ∧ Hid (Below w.heap.size w wr)) (fun _ _ i _ => n - (intOf i).toNat)
  case atStart => exact ⟨0, [], -1, Nat.zero_le _, rfl, rfl, rfl, Nat.le_refl _, Lib.hid rfl, Lib.hid (.inl ⟨rfl, fun j hj => absurd hj (Nat.not_lt_zero _)⟩), Lib.hid (Below.refl _ _)⟩
  case round =>
    obtain ⟨t, y, fi, htn, rfl, rfl, rfl, hy, HY, HI, HB⟩ := hrel
    obtain ⟨f1, f2⟩ := first_size HI.out
    by_cases hlt : t < n
    · have gl : (t : Int) < (n : Int) := by omega
      have gl0 : (0 : Int) ≤ (t : Int) := by omega
      obtain ⟨b, o, x, rfl, hx, c1⟩ := bool_at (HA.out.on HB.out) hlt
      have hsc := World.block_lt_of_cell? wr _ c1
      have hfx : f t = x := by rw [HF.out]; exact hx
      have D1 := Lib.hid (kdigits_any wr (i := t) (by omega))
      have HNX : Hid (PTree.txs [] (PTree.frL f (t + 1)) = y ++ ((PTree.frI f t).tx ++ [])) := Lib.hid (by rw [PTree.frL_snoc, PTree.txs_snoc, HY.out])
      have hl2 : (PTree.txs [] (PTree.frL f (t + 1))).length ≤ 18 * (t + 1) := by
        have := PTree.txs_len (sep := []) (Nat.zero_le _) _ (PTree.frL_ok f (t := t + 1) (by omega))
        rwa [PTree.frL_len] at this
      have hd1 := PTree.digI_len t
      have hy8 : y.length ≤ 800 := by omega
      clear HY hx
      cases x with
      | true =>
        have HX : Hid (FirstNo f (t + 1) fi) := Lib.hid (first_yes HI.out hfx)
        have HFR : Hid (PTree.frI f t = ⟨PTree.earnW, PTree.nmI t, 1, PTree.baseW, .name PTree.baseW⟩) := Lib.hid (by unfold PTree.frI; rw [if_pos hfx])
        clear hfx HI
        go_wp2_with (go_at_call 20; refine D1.out.mono ?_)
        intro e1 w1 h1
        obtain ⟨rfl, b1⟩ := h1
        have B1 := Lib.hid (below_step HB.out b1)
        clear b1 D1 HB
        go_wp2_with fail
        refine ⟨⟨t + 1, _, fi, hlt, rfl, rfl, congrArg Value.string (?_ : _ = (⟨(PTree.txs [] (PTree.frL f (t + 1))).toArray⟩ : ByteArray)), hl2, Lib.hid rfl, HX, B1⟩, by simp [intOf]; omega⟩
        rw [HNX.out, HFR.out]
        apply ByteArray.ext
        simp [PTree.It.tx, PTree.earnW, PTree.baseW, PTree.nmI]
      | false =>
        have HFR : Hid (PTree.frI f t = ⟨PTree.earnW, PTree.nmI t, 1, PTree.hoursW, .name PTree.hoursW⟩) := Lib.hid (by unfold PTree.frI; rw [if_neg (by rw [hfx]; decide)])
        by_cases hz : fi < 0
        · have HX : Hid (FirstNo f (t + 1) (t : Int)) := Lib.hid (first_new HI.out hz hfx)
          clear hfx HI
          go_wp2_with (go_at_call 20; refine D1.out.mono ?_)
          intro e1 w1 h1
          obtain ⟨rfl, b1⟩ := h1
          have B1 := Lib.hid (below_step HB.out b1)
          clear b1 D1 HB
          go_wp2_with fail
          refine ⟨⟨t + 1, _, t, hlt, rfl, rfl, congrArg Value.string (?_ : _ = (⟨(PTree.txs [] (PTree.frL f (t + 1))).toArray⟩ : ByteArray)), hl2, Lib.hid rfl, HX, B1⟩, by simp [intOf]; omega⟩
          rw [HNX.out, HFR.out]
          apply ByteArray.ext
          simp [PTree.It.tx, PTree.earnW, PTree.hoursW, PTree.nmI]
        · have HX : Hid (FirstNo f (t + 1) fi) := Lib.hid (first_old HI.out (by omega))
          clear hfx HI
          go_wp2_with (go_at_call 20; refine D1.out.mono ?_)
          intro e1 w1 h1
          obtain ⟨rfl, b1⟩ := h1
          have B1 := Lib.hid (below_step HB.out b1)
          clear b1 D1 HB
          go_wp2_with fail
          refine ⟨⟨t + 1, _, fi, hlt, rfl, rfl, congrArg Value.string (?_ : _ = (⟨(PTree.txs [] (PTree.frL f (t + 1))).toArray⟩ : ByteArray)), hl2, Lib.hid rfl, HX, B1⟩, by simp [intOf]; omega⟩
          rw [HNX.out, HFR.out]
          apply ByteArray.ext
          simp [PTree.It.tx, PTree.earnW, PTree.hoursW, PTree.nmI]
    · obtain rfl : t = n := by omega
      have gl : ¬ (t : Int) < (t : Int) := by omega
      have hok := PTree.frL_ok f hn4
      have hcl := PTree.frL_len f t
      have PR := Lib.hid (parse_ans (.inl rfl) hok (by omega) wr hcl)
      have HFT := Lib.hid (fit_items (sep := []) (.inl rfl) hok (by omega))
      rw [← HY.out] at PR
      have HAN := Lib.hid (free_ans (f := f) hn4)
      have HCH : Hid ((fi = -1 ∧ ∃ ks : List Int, ks.length = t ∧ chkA t (xpX ((PTree.frL f t).map PTree.It.rl)) (rwX ((PTree.frL f t).map PTree.It.rl)) (POrd.ans (nmR (rwX ((PTree.frL f t).map PTree.It.rl))) (POrd.hangs ((PTree.frL f t).map PTree.It.rl))) = (List.range t, ks, 0, 0)) ∨ ∃ j0 : Nat, j0 < t ∧ fi = (j0 : Int) ∧ chkA t (xpX ((PTree.frL f t).map PTree.It.rl)) (rwX ((PTree.frL f t).map PTree.It.rl)) (POrd.ans (nmR (rwX ((PTree.frL f t).map PTree.It.rl))) (POrd.hangs ((PTree.frL f t).map PTree.It.rl))) = ([], [], j0, 7)) := Lib.hid (by
        rcases HI.out with ⟨h1, h2⟩ | ⟨j0, h1, h2, h3, h4⟩
        · exact .inl ⟨h1, free_all hn4 h2⟩
        · exact .inr ⟨j0, h1, h2, free_one hn4 h1 h3 h4⟩)
      obtain ⟨rs, hrs⟩ : ∃ rs, (PTree.frL f t).map PTree.It.rl = rs := ⟨_, rfl⟩
      rw [hrs] at PR HFT HAN HCH
      obtain ⟨wo, hwo⟩ : ∃ wo, wo = wr := ⟨_, rfl⟩
      subst hwo
      clear hok hcl hrs HY hlt htn hy HI HF
      go_wp2_with (go_at_call 10; refine PR.out.mono ?_)
      intro e5 w5 h5
      obtain ⟨A2, ca2, B2, cb2, rfl, hcb2, s3, s4, b5⟩ := h5
      obtain ⟨w6, hw6, YB, b6⟩ : ∃ w6, w5.alloc (.cells #[.slice none 0 0, .slice none 0 0] 32) = w6 ∧ Box w6 w5.heap.size [.slice none 0 0, .slice none 0 0] ∧ Below w5.heap.size w5 w6 := ⟨_, rfl, Box.new _ _ [.slice none 0 0, .slice none 0 0], (Below.refl _ _).alloc (Nat.le_refl _) _⟩
      obtain ⟨w7, hw7, Y7, ON7⟩ := store2 YB (.slice A2 t ca2) (.slice B2 t cb2)
      have b7 := ON7.below (Nat.le_refl _) b6
      have B7 := Lib.hid (below_step HB.out (below_step b5 b7))
      have HT7 := Lib.hid (HT.out.on B7.out)
      have S3 := Lib.hid (s3.on b7); have S4 := Lib.hid (s4.on b7); have HCB := Lib.hid hcb2
      have CS := Lib.hid (by have h := ksort_any (rc := ca2) (c := cb2) HFT.out S3.out S4.out hcb2 HT7.out; rw [HAN.out] at h; exact h)
      have HY7 := Lib.hid Y7
      obtain ⟨y0, y1⟩ := px2 YB
      obtain ⟨z0, z1⟩ := px2f YB
      have hs6 := YB.1
      obtain ⟨q0, q1⟩ := px2 Y7
      have hs7 := Y7.1
      have HW7 := Lib.hid hw7
      clear YB Y7 ON7 b5 b6 b7 hw7 PR s3 s4 hcb2 HB
      go_upto_region 15 with fail
      rw [HW7.out]
      clear HW7 hw6 y0 y1 z0 z1 hs6
      go_wp2_with (go_at_call 11; refine CS.out.mono ?_)
      intro e8 w8 h8
      obtain ⟨LA, lc, rfl, sl, -, b8⟩ := h8
      simp only [List.length_range] at sl ⊢
      have B8 := Lib.hid (below_step B7.out b8)
      have HT8 := Lib.hid (HT.out.on B8.out)
      have hy8' := HY7.out.on b8
      have SL := Lib.hid sl
      have CC := Lib.hid (kcheck_any (rc := ca2) (c := cb2) HFT.out (S3.out.on b8) (S4.out.on b8) HCB.out HT8.out)
      clear b8 q0 q1 hs7 CS B7 HT7 sl HY7 S3 S4 HFT
      obtain ⟨q0, q1⟩ := px2 hy8'
      have hs8 := hy8'.1
      clear hy8'
      rcases HCH.out with ⟨hfi, ks, hks, hch⟩ | ⟨j0, hj0, hfi, hch⟩
      · rw [hch] at CC
        subst hfi
        have HKS := Lib.hid hks
        clear HCH hch HAN hks
        go_wp2_with (go_at_call 13; refine CC.out.mono ?_)
        intro e10 w10 h10
        obtain ⟨GA, gc, GB, gd, rfl, -, -, -, -, -, -, b10⟩ := h10
        simp only []
        rw [HKS.out]
        have B10 := Lib.hid (below_step B8.out b10)
        have SL := Lib.hid (SL.out.on b10)
        clear b10 q0 q1 hs8 CC HT8 B8
        go_wp2_with fail
        go_loopw [79] (fun i wr => ∃ j : Nat, j ≤ t ∧ i = .int .i64 j ∧ Hid (Below w10.heap.size w10 wr)) (fun i _ => t - (intOf i).toNat)
        case atStart => exact ⟨0, Nat.zero_le _, rfl, Lib.hid (Below.refl _ _)⟩
        case round =>
          obtain ⟨j, hj, rfl, I1⟩ := hrel
          by_cases hlt : j < t
          · obtain ⟨b1, o1, x, rfl, hx, c1⟩ := int_at (SL.out.on I1.out) hlt
            rw [line_at hlt] at hx
            obtain rfl := Option.some.inj hx
            have s1 := World.block_lt_of_cell? wr _ c1
            have gl : (j : Int) < (t : Int) := by omega
            have gx : ((j : Int) != (j : Int)) = false := by simp
            clear hx
            go_wp2_with fail
            exact ⟨⟨j + 1, by omega, rfl, I1⟩, by simp [intOf]; omega⟩
          · obtain rfl : j = t := by omega
            have AW := Lib.hid (aw11_any wr (HT.out.on (below_step B10.out I1.out)))
            clear hlt
            go_wp2_with (go_at_call 8; refine AW.out.mono ?_)
            intro e9 w9 h9
            obtain ⟨rfl, b9⟩ := h9
            have B9 := Lib.hid (below_step (below_step B10.out I1.out) b9)
            clear b9 AW
            go_wp2_with fail
            exact FIN.out _ B9.out
      · rw [hch] at CC
        subst hfi
        have gj0 : (0 : Int) ≤ (j0 : Int) := by omega
        clear HCH hch HAN
        go_wp2_with (go_at_call 13; refine CC.out.mono ?_)
        intro e10 w10 h10
        obtain ⟨GA, gc, GB, gd, rfl, -, -, -, -, -, -, b10⟩ := h10
        have B10 := Lib.hid (below_step B8.out b10)
        have SL := Lib.hid (SL.out.on b10)
        clear b10 q0 q1 hs8 CC HT8 B8
        go_wp2_with fail
        go_loopw [79] (fun i wr => ∃ j : Nat, j ≤ t ∧ i = .int .i64 j ∧ Hid (Below w10.heap.size w10 wr)) (fun i _ => t - (intOf i).toNat)
        case atStart => exact ⟨0, Nat.zero_le _, rfl, Lib.hid (Below.refl _ _)⟩
        case round =>
          obtain ⟨j, hj, rfl, I1⟩ := hrel
          by_cases hlt : j < t
          · obtain ⟨b1, o1, x, rfl, hx, c1⟩ := int_at (SL.out.on I1.out) hlt
            rw [line_at hlt] at hx
            obtain rfl := Option.some.inj hx
            have s1 := World.block_lt_of_cell? wr _ c1
            have gl : (j : Int) < (t : Int) := by omega
            have gx : ((j : Int) != (j : Int)) = false := by simp
            clear hx
            go_wp2_with fail
            exact ⟨⟨j + 1, by omega, rfl, I1⟩, by simp [intOf]; omega⟩
          · obtain rfl : j = t := by omega
            have AW := Lib.hid (aw11_any wr (HT.out.on (below_step B10.out I1.out)))
            clear hlt
            go_wp2_with (go_at_call 8; refine AW.out.mono ?_)
            intro e9 w9 h9
            obtain ⟨rfl, b9⟩ := h9
            have B9 := Lib.hid (below_step (below_step B10.out I1.out) b9)
            clear b9 AW
            go_wp2_with fail
            exact FIN.out _ B9.out
end Go.Proofs.YtdkcdgjpcojdfaaGreatDoor
