/-
  The one file that a text may be of: what the landed bank answers.
-/
import Derived.Test.YtbnnmakmgleikaaDoorBkNum
import Derived.Test.YtbnnmakmgleikaaDoorBkFile
import Derived.Test.YtbnnmakmgleikaaDoorStepRec
import Derived.Deep.AppendLies
import Derived.Deep.RegionHeld3
import Derived.Deep.DeepCutAuto
set_option linter.unusedVariables false
namespace Go.Proofs.YtbnnmakmgleikaaDoor
open Go.RowKit
open PBank (Pay)

def GuB (s : List UInt8) (w : World) (e : Ending) (w' : World) : Prop := ∃ A c, e = .returned (.agg #[.int .i64 (PBank.gPer s), .slice A (PBank.gPay s).length c]) ∧ SlX payR w' A (PBank.gPay s).length (PBank.gPay s) ∧ (∀ a, A = some a → w.heap.size ≤ a.block) ∧ Below w.heap.size w w'
theorem drop_list (s : ByteArray) (a : Nat) : (s.extract a s.size).data.toList = s.data.toList.drop a := by
  have h : s.data.toList.length = s.size := by simp
  simp only [ByteArray.data_extract, Array.toList_extract, List.extract_eq_take_drop]
  rw [List.take_of_length_le]
  rw [List.length_drop, h]; exact Nat.le_refl _
theorem keep1 {w w' : World} {p : Addr} {u : Value} (hb : Below w.heap.size w w') (h : w.cell? p = some u) : w'.cell? p = some u := (hb.cell (World.block_lt_of_cell? w _ h)).trans h
theorem keepf {w w' : World} {H i : Nat} {b : Bool} (hb : Below w.heap.size w w') (h : w.frozen? ⟨H, i, none⟩ = b) (hl : H < w.heap.size) : w'.frozen? ⟨H, i, none⟩ = b := (hb.frozen (p := ⟨H, i, none⟩) hl).trans h
theorem pay_recTy : RecTy payR 44 22 24 where
  info := ⟨.agg #[.int .u8 0, .int .i64 0, .int .i64 0], by kernel_rfl, by rfl⟩
  under := by kernel_rfl
  few := by decide
set_option maxRecDepth 100000 in
set_option maxHeartbeats 12800000 in
theorem kguess_any (s : ByteArray) (w : World) (he : ErrV w) (hs : (s.size : Int) ≤ 9223372036854775807) : Calls Tryd.prog 24 #[.string s] w (GuB s.data.toList w) := by
  obtain ⟨Q, hQ⟩ : ∃ Q, GuB s.data.toList w = Q := ⟨_, rfl⟩
  rw [hQ]
  have hsz : s.data.toList.length = s.size := by simp
  obtain ⟨w1, hw1, XB, b1⟩ : ∃ w1, w.alloc (.cells #[.int .i64 0, .slice none 0 0] 24) = w1 ∧ Box w1 w.heap.size [.int .i64 0, .slice none 0 0] ∧ Below w.heap.size w w1 := ⟨_, rfl, Box.new _ _ [.int .i64 0, .slice none 0 0], (Below.refl _ _).alloc (Nat.le_refl _) _⟩
  obtain ⟨x0, x1⟩ := c2 XB
  have xf : w1.frozen? ⟨w.heap.size, 0, none⟩ = false ∧ w1.frozen? ⟨w.heap.size, 1, none⟩ = false := ⟨XB.f 0 rfl, XB.f 1 rfl⟩
  obtain ⟨f0, f1⟩ := xf
  have hsx := XB.1
  by_cases hin : PBank.inSize s.data.toList = true
  · have hin2 : 33 ≤ s.size ∧ s.size ≤ 33 + 28 * 4999 := by
      unfold PBank.inSize at hin
      rw [decide_eq_true_eq, hsz] at hin
      exact hin
    obtain ⟨per, hper⟩ : ∃ z, PBank.gPer s.data.toList = z := ⟨_, rfl⟩
    obtain ⟨K, hK⟩ : ∃ K, PBank.many s.data.toList = K := ⟨_, rfl⟩
    have hKs : K = (s.size - 33) / 28 := by rw [← hK]; unfold PBank.many; rw [hsz]
    have hp2 : PBank.num ((s.data.toList.drop 1).take 5) = per := by rw [← hper]; unfold PBank.gPer; rw [if_pos hin]
    have hgp : PBank.gPay s.data.toList = PBank.guessL s.data.toList K := by unfold PBank.gPay; rw [if_pos hin, hK]
    have FIN : Hid (∀ (A : Option Addr) (c : Nat) (w' : World), SlX payR w' A K (PBank.guessL s.data.toList K) → (∀ a, A = some a → w.heap.size ≤ a.block) → Below w.heap.size w w' → Q (.returned (.agg #[.int .i64 per, .slice A K c])) w') := Lib.hid (fun A c w' h fr a => by
      rw [← hQ]
      refine ⟨A, c, ?_, by rw [hgp, PBank.guessL_len]; exact h, fr, a⟩
      rw [hper, hgp, PBank.guessL_len])
    have hE1 := he.on b1
    have hsz1 : (s.extract 1 s.size).size = s.size - 1 := by rw [ByteArray.size_extract]; omega
    have CN := Lib.hid (by have h := knumber_any (s.extract 1 s.size) 5 w1 hE1 (by decide) (by omega); rw [drop_list, hp2] at h; exact (h : Calls Tryd.prog 38 #[.string (s.extract 1 s.size), .int .i64 5] w1 (IntB per w1)))
    have HKS := Lib.hid hKs
    have HE := Lib.hid hE1; have B1 := Lib.hid b1; have HW1 := Lib.hid hw1; have HX := Lib.hid XB
    have hc1 : ¬ (s.size : Int) - 7 - 26 < 0 := by omega
    have hc2 : ¬ (139972 : Int) < (s.size : Int) - 7 - 26 := by omega
    have hc3 : (1 : Int) ≤ (s.size : Int) := by omega
    clear hQ hin hper hK hp2 hgp hE1 hsz1 b1 XB hw1 he hKs
    go_enter Tryd.func24, Tryd.ntmps24
    go_upto_region 1 with fail
    rw [HW1.out]
    clear x0 x1 f0 f1 hsx
    go_wp2_with (go_at_call 38; refine CN.out.mono ?_)
    intro e2 w2 h2
    obtain ⟨rfl, b2⟩ := h2
    obtain ⟨w3, hw3, FB, b3'⟩ : ∃ w3, w2.alloc (.cells #[.int .i64 0, .slice none 0 0] 24) = w3 ∧ Box w3 w2.heap.size [.int .i64 0, .slice none 0 0] ∧ Below w2.heap.size w2 w3 := ⟨_, rfl, Box.new _ _ [.int .i64 0, .slice none 0 0], (Below.refl _ _).alloc (Nat.le_refl _) _⟩
    obtain ⟨w4, hw4, F4, ON4⟩ : ∃ w4, (w3.setCell ⟨w2.heap.size, 0, none⟩ (.int .i64 per)).setCell ⟨w2.heap.size, 1, none⟩ (.slice none 0 0) = w4 ∧ Box w4 w2.heap.size [.int .i64 per, .slice none 0 0] ∧ Only w2.heap.size w3 w4 := ⟨_, rfl, (FB.set 0 (by simp) _).set 1 (by simp) _, ((Only.refl _ _).set 0 _).set 1 _⟩
    have b4 : Below w2.heap.size w2 w4 := ON4.below (Nat.le_refl _) b3'
    obtain ⟨y0, y1⟩ := c2 FB
    have hz : w3.frozen? ⟨w2.heap.size, 0, none⟩ = false ∧ w3.frozen? ⟨w2.heap.size, 1, none⟩ = false := ⟨FB.f 0 rfl, FB.f 1 rfl⟩
    obtain ⟨z0, z1⟩ := hz
    have hs3 := FB.1
    have hs4 : w4.heap.size = w2.heap.size + 1 := by rw [← hw4, ← hw3]; simp
    have HW4 := Lib.hid hw4; have B2 := Lib.hid b2; have B4 := Lib.hid b4; have HF4 := Lib.hid F4; have HS4 := Lib.hid hs4
    have HX2 := Lib.hid (HX.out.on b2)
    have HE2 := Lib.hid (HE.out.on b2)
    clear CN b2 FB F4 ON4 b3' b4 hw4 hs4
    go_upto_region 5 with fail
    rw [HW4.out]
    clear HW4 hw3 y0 y1 z0 z1 hs3
    go_wp2_with fail
    go_loopw [3, 5] (fun r a wx => ∃ (k : Nat) (v : Value), r = .int .i64 ((s.size : Int) - 7 - 26 - 28 * (k : Int)) ∧ a = .int .i64 (7 + 28 * (k : Int)) ∧ k ≤ K ∧ Hid (Box wx w2.heap.size [.int .i64 per, v]) ∧ Hid (wx.ownsRow (w2.heap.size + 1) 44 3 v k (payR.cells (PBank.guessL s.data.toList k))) ∧ Hid (Below w2.heap.size w2 wx)) (fun r _ _ => (intOf r).toNat)
    case atStart => exact ⟨0, .slice none 0 0, by simp, rfl, Nat.zero_le _, HF4, Lib.hid (World.ownsRow_nil w4 _ _ _), B4⟩
    case round =>
      obtain ⟨k, v, rfl, rfl, hk, I1, I2, I3⟩ := hrel
      have hks := HKS.out
      by_cases hlt : k < K
      · have g1 : (28 : Int) ≤ (s.size : Int) - 7 - 26 - 28 * (k : Int) := by omega
        have g2 : (0 : Int) ≤ 7 + 28 * (k : Int) := by omega
        have g3 : 7 + 28 * (k : Int) ≤ (s.size : Int) := by omega
        go_upto_region 9 with fail
        obtain ⟨ln, hln⟩ : ∃ ln, s.extract (7 + 28 * k) s.size = ln := ⟨_, rfl⟩
        have hls : ln.size = s.size - (7 + 28 * k) := by rw [← hln, ByteArray.size_extract]; omega
        have hl28 : 28 ≤ ln.size := by omega
        have hll : ln.data.toList = s.data.toList.drop (7 + 28 * k) := by rw [← hln]; exact drop_list s _
        rw [hln]
        have hn0 : 0 < ln.size := by omega
        obtain ⟨pn, hpn⟩ : ∃ z, PBank.num ((s.data.toList.drop (7 + 28 * k + 1)).take 10) = z := ⟨_, rfl⟩
        obtain ⟨pa, hpa⟩ : ∃ z, PBank.num ((s.data.toList.drop (7 + 28 * k + 11)).take 16) = z := ⟨_, rfl⟩
        have hpk : ((s.data.toList.getD (7 + 28 * k) 0).toNat : Int) = ((ln[0]'hn0).toNat : Int) := by
          have h1 : ln.data.toList[0]? = s.data.toList[7 + 28 * k]? := by rw [hll, List.getElem?_drop]; rfl
          have h2 : ln.data.toList[0]? = some (ln[0]'hn0) := by rw [List.getElem?_eq_getElem (by simpa using hn0)]; rfl
          rw [List.getD_eq_getElem?_getD, ← h1, h2]; rfl
        have HGS : Hid (PBank.guessL s.data.toList (k + 1) = PBank.guessL s.data.toList k ++ [⟨((ln[0]'hn0).toNat : Int), pn, pa⟩]) := Lib.hid (by
          rw [PBank.guessL_snoc]; unfold PBank.payAt; rw [hpn, hpa, hpk])
        have HEr := Lib.hid (HE2.out.on I3.out)
        have R1 : Hid (∀ wx, Below wr.heap.size wr wx → Calls Tryd.prog 38 #[.string (ln.extract 1 ln.size), .int .i64 10] wx (IntB pn wx)) := Lib.hid (fun wx hb => by
          have hz1 : (ln.extract 1 ln.size).size = ln.size - 1 := by rw [ByteArray.size_extract]; omega
          have h := knumber_any (ln.extract 1 ln.size) 10 wx (HEr.out.on hb) (by decide) (by omega)
          rw [drop_list, hll, List.drop_drop] at h
          rw [← hpn]; exact h)
        have R2 : Hid (∀ wx, Below wr.heap.size wr wx → Calls Tryd.prog 38 #[.string (ln.extract 11 ln.size), .int .i64 16] wx (IntB pa wx)) := Lib.hid (fun wx hb => by
          have hz1 : (ln.extract 11 ln.size).size = ln.size - 11 := by rw [ByteArray.size_extract]; omega
          have h := knumber_any (ln.extract 11 ln.size) 16 wx (HEr.out.on hb) (by decide) (by omega)
          rw [drop_list, hll, List.drop_drop] at h
          rw [← hpa]; exact h)
        have gl1 : (1 : Int) ≤ (ln.size : Int) := by omega
        have gl2 : (11 : Int) ≤ (ln.size : Int) := by omega
        obtain ⟨e0, e1⟩ := c2 I1.out
        have ef : wr.frozen? ⟨w2.heap.size, 1, none⟩ = false := I1.out.f 1 rfl
        have hbr := I1.out.1
        have CR1 := R1.out _ ((Below.refl wr.heap.size wr).drew)
        have NB : ∀ (wz : World) (j : Nat) (u : Value), (payR.C ⟨((ln[0]'hn0).toNat : Int), pn, pa⟩)[j]? = some u → (wz.alloc (.cells #[.int .u8 ((ln[0]'hn0).toNat : Int), .int .i64 pn, .int .i64 pa] 44)).cell? ⟨wz.heap.size, j, none⟩ = some u := fun wz j u hu => by
          rcases j with _ | _ | _ | j
          · obtain rfl := Option.some.inj hu; go_simp
          · obtain rfl := Option.some.inj hu; go_simp
          · obtain rfl := Option.some.inj hu; go_simp
          · cases hu
        have hk5 : k + 1 ≤ 100000 := by omega
        have Z0 : wr.drew.cell? ⟨w2.heap.size, 1, none⟩ = some v := e1
        clear hln hls hll hpn hpa hpk hks HE2 R1
        go_cut [] (fun wx => ∃ v', Hid (Box wx w2.heap.size [.int .i64 per, v']) ∧ Hid (wx.ownsRow (w2.heap.size + 1) 44 3 v' (k + 1) (payR.cells (PBank.guessL s.data.toList (k + 1)))) ∧ Hid (Below w2.heap.size w2 wx))
        case first =>
          go_region_law
            (first
              | (refine step_append_rec pay_recTy _ (by rfl) _ _ (by rfl) (w2.heap.size + 1) v k (PBank.guessL s.data.toList k) ⟨((ln[0]'hn0).toNat : Int), pn, pa⟩ (by rfl) (O6.alloc _) _ (by rfl) N6 (by omega) (by simp; omega) ?_; intro g cap w7 hown7 hg7 hat7 hb7; have Z7 : w7.cell? ⟨w2.heap.size, 1, none⟩ = some v := (hb7.cell (p := ⟨w2.heap.size, 1, none⟩) (Nat.lt_succ_self _)).trans (keep1 ((Below.refl _ _).alloc (Nat.le_refl _) _) Z2); have f7 : w7.frozen? ⟨w2.heap.size, 1, none⟩ = false := (hb7.frozen (p := ⟨w2.heap.size, 1, none⟩) (Nat.lt_succ_self _)).trans (keepf ((Below.refl _ _).alloc (Nat.le_refl _) _) f6 (by omega)))
              | (go_simp; go_at_call 38; (with_reducible refine CR1.mono ?_); rintro _ w5 ⟨rfl, hb5⟩; have b5 := (Below.refl wr.heap.size wr).drew.trans hb5; have Z1 := keep1 b5 e1; have CR2 := R2.out _ b5)
              | (go_simp; go_at_call 38; (with_reducible refine CR2.mono ?_); rintro _ w6 ⟨rfl, hb6⟩; have b6 := below_step b5 hb6; have Z2 := keep1 b6 e1; have f6 := keepf b6 ef hbr; have Z3 : (w6.alloc (.cells #[.int .u8 ((ln[0]'hn0).toNat : Int), .int .i64 pn, .int .i64 pa] 44)).cell? ⟨w2.heap.size, 1, none⟩ = some v := keep1 ((Below.refl _ _).alloc (Nat.le_refl _) _) Z2; have O6 := own_kept I2.out b6; have B6 := Lib.hid (I1.out.on b6); have N6 := NB w6; have s6 := b6.size))
          all_goals
            have XZ := Lib.hid (((B6.out.on ((Below.refl _ _).alloc (Nat.le_refl _) (.cells #[.int .u8 ((ln[0]'hn0).toNat : Int), .int .i64 pn, .int .i64 pa] 44))).keep hb7 (Nat.lt_succ_self _)).set 1 (by simp) (.slice (some ⟨g, 0, none⟩) (k + 1) cap))
            have HOZ := Lib.hid (ownsRow_setCell_below (a := ⟨w2.heap.size, 1, none⟩) hown7 (Nat.lt_succ_self w2.heap.size) (.slice (some ⟨g, 0, none⟩) (k + 1) cap))
            have BZ := Lib.hid ((((I3.out.trans (b6.mono (Nat.le_of_lt hbr))).trans (((Below.refl w6.heap.size w6).alloc (Nat.le_refl _) (.cells #[.int .u8 ((ln[0]'hn0).toNat : Int), .int .i64 pn, .int .i64 pa] 44)).mono (by omega))).trans (hb7.mono (Nat.le_succ _))).setCell (p := ⟨w2.heap.size, 1, none⟩) (Nat.le_refl _) (.slice (some ⟨g, 0, none⟩) (k + 1) cap))
            rw [← HGS.out] at HOZ
            clear hown7 hb7 hg7 hat7
            go_wp2_with fail
            go_meet
            exact ⟨_, XZ, HOZ, BZ⟩
        case rest =>
          obtain ⟨v', XZ, HOZ, BZ⟩ := hcut
          go_wp2_with fail
          exact ⟨⟨k + 1, v', congrArg (Value.int .i64) (by omega), congrArg (Value.int .i64) (by omega), by omega, XZ, HOZ, BZ⟩, by simp [intOf]; omega⟩
      · obtain rfl : k = K := by omega
        have g1 : ¬ (28 : Int) ≤ (s.size : Int) - 7 - 26 - 28 * (k : Int) := by omega
        clear hks
        obtain ⟨A, cp, rfl, hA0, hcp, hsl⟩ := slr_of_own I2.out (PBank.guessL_len _ _)
        have HSL := Lib.hid hsl
        obtain ⟨q0, q1⟩ := c2 I1.out
        have hsq := I1.out.1
        have XR := HX2.out.on I3.out
        obtain ⟨x0, x1⟩ := c2 XR
        have hxf : wr.frozen? ⟨w.heap.size, 0, none⟩ = false ∧ wr.frozen? ⟨w.heap.size, 1, none⟩ = false := ⟨XR.f 0 rfl, XR.f 1 rfl⟩
        obtain ⟨f0, f1⟩ := hxf
        have hsx := XR.1
        obtain ⟨w9, hw9, X9, ON9⟩ : ∃ w9, (wr.setCell ⟨w.heap.size, 0, none⟩ (.int .i64 per)).setCell ⟨w.heap.size, 1, none⟩ (.slice A k cp) = w9 ∧ Box w9 w.heap.size [.int .i64 per, .slice A k cp] ∧ Only w.heap.size wr w9 := ⟨_, rfl, (XR.set 0 (by simp) _).set 1 (by simp) _, ((Only.refl _ _).set 0 _).set 1 _⟩
        have hlow : w.heap.size < w2.heap.size := HX2.out.1
        have HSL9 : Hid (SlX payR w9 A k (PBank.guessL s.data.toList k)) := Lib.hid (by
          have hf := own_from I2.out
          rw [← hw9]
          exact (HSL.out.far (B := w2.heap.size + 1) hf (by show w.heap.size < _; omega) _).far (B := w2.heap.size + 1) hf (by show w.heap.size < _; omega) _)
        have B9 := Lib.hid (ON9.below (Nat.le_refl _) (below_step (below_step B1.out B2.out) I3.out))
        obtain ⟨k0, k1⟩ := c2 X9
        have hk9 := X9.1
        have HW9 := Lib.hid hw9
        clear XR X9 ON9 hw9 HSL hlt hsl
        go_wp2_with fail
        rw [HW9.out]
        clear x0 x1 f0 f1 hsx q0 q1 hsq
        refine bodyPost_ret (by simp [results, Tryd.results24, go_sem, k0, k1]; try rfl) rfl ?_
        exact FIN.out _ _ _ HSL9.out (fun a ha => by have := own_from I2.out a ha; omega) B9.out
  · have h0 : PBank.gPer s.data.toList = 0 := by unfold PBank.gPer; rw [if_neg hin]
    have h1 : PBank.gPay s.data.toList = [] := by unfold PBank.gPay; rw [if_neg hin]
    have FIN : Hid (∀ (w' : World), Below w.heap.size w w' → Q (.returned (.agg #[.int .i64 0, .slice none 0 0])) w') := Lib.hid (fun w' a => by
      rw [← hQ]
      refine ⟨none, 0, ?_, by rw [h1]; exact slr_nil payR w' none, (fun _ h => by cases h), a⟩
      rw [h0, h1]; rfl)
    have hcase : (s.size : Int) - 7 - 26 < 0 ∨ 139972 < (s.size : Int) - 7 - 26 := by
      unfold PBank.inSize at hin
      rw [decide_eq_true_eq, hsz] at hin
      omega
    have B1 := Lib.hid b1; have HW1 := Lib.hid hw1
    clear hQ hin h0 h1 hw1
    have H0 : w1.heap.size = w.heap.size + 1 := by rw [← HW1.out]; simp
    obtain ⟨w2, hw2, X2, ON2⟩ : ∃ w2, (w1.setCell ⟨w.heap.size, 0, none⟩ (.int .i64 0)).setCell ⟨w.heap.size, 1, none⟩ (.slice none 0 0) = w2 ∧ Box w2 w.heap.size [.int .i64 0, .slice none 0 0] ∧ Only w.heap.size w1 w2 := ⟨_, rfl, (XB.set 0 (by simp) _).set 1 (by simp) _, ((Only.refl _ _).set 0 _).set 1 _⟩
    have B2 := Lib.hid (ON2.below (Nat.le_refl _) b1)
    obtain ⟨k0, k1⟩ := c2 X2
    have hk := X2.1
    have HW2 := Lib.hid hw2
    clear XB b1 H0 X2 ON2 hw2
    rcases hcase with hc | hc
    · go_enter Tryd.func24, Tryd.ntmps24
      go_upto_region 1 with fail
      rw [HW1.out]
      go_wp2_with fail
      rw [HW2.out]
      clear x0 x1 f0 f1 hsx
      refine bodyPost_ret (by simp [results, Tryd.results24, go_sem, k0, k1]; try rfl) rfl ?_
      exact FIN.out _ B2.out
    · have hc0 : ¬ (s.size : Int) - 7 - 26 < 0 := by omega
      go_enter Tryd.func24, Tryd.ntmps24
      go_upto_region 1 with fail
      rw [HW1.out]
      go_wp2_with fail
      rw [HW2.out]
      clear x0 x1 f0 f1 hsx
      refine bodyPost_ret (by simp [results, Tryd.results24, go_sem, k0, k1]; try rfl) rfl ?_
      exact FIN.out _ B2.out
end Go.Proofs.YtbnnmakmgleikaaDoor
