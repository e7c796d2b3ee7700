/-
  Fifty people are hired, and no more; each is there from their period on, until they are gone: the landed master keeps to it.
-/
import Derived.Test.YtbnnmakmgleikaaLaw13Awake
import Derived.Test.YtbnnmakmgleikaaMaFullMath
import Derived.Deep.DeepCutAuto
set_option linter.unusedVariables false
set_option linter.unusedSimpArgs false
namespace Go.Proofs.Ytbnnmakmgleikaa
open Go.RowKit

set_option maxRecDepth 100000 in
set_option maxHeartbeats 12800000 in
theorem lfull_walk (step when : Int) (w : World) (h0 : (Lit.int .u8 step).wf = true) (h1 : (Lit.int .u8 when).wf = true) :
    Calls Try.prog 5 #[.int .u8 step, .int .u8 when] w fun e w' => e = .returned (.bool true) ∧ Below w.heap.size w w' := by
  obtain ⟨Q, hQ⟩ : ∃ Q : Ending → World → Prop, (fun e w' => e = .returned (.bool true) ∧ Below w.heap.size w w') = Q := ⟨_, rfl⟩
  rw [hQ]
  have FIN : Hid (∀ w', Below w.heap.size w w' → Q (.returned (.bool true)) w') := Lib.hid (fun w' a => by rw [← hQ]; exact ⟨rfl, a⟩)
  obtain ⟨x0, x1⟩ := u8_bounds h0
  obtain ⟨t0, t1⟩ := u8_bounds h1
  obtain ⟨s, hs, hs20⟩ : ∃ s : Nat, step.tmod 20 = (s : Int) ∧ s < 20 := ⟨(step % 20).toNat, by rw [Int.tmod_eq_emod_of_nonneg x0]; omega, by omega⟩
  obtain ⟨t, ht, ht60⟩ : ∃ t : Nat, when.tmod 60 = (t : Int) ∧ t < 60 := ⟨(when % 60).toNat, by rw [Int.tmod_eq_emod_of_nonneg t0]; omega, by omega⟩
  have HS := Lib.hid hs20; have HT := Lib.hid ht60
  have gs : IntKind.i64.wrap (s : Int) = s := by rw [IntKind.wrap_i64]; omega
  have gt : IntKind.i64.wrap (t : Int) = t := by rw [IntKind.wrap_i64]; omega
  have g2 : IntKind.i64.wrap (2 * (s : Int)) = 2 * (s : Int) := by rw [IntKind.wrap_i64]; omega
  obtain ⟨K1, hK1⟩ : ∃ K1, 1 + 2 * (s : Int) = K1 := ⟨_, rfl⟩
  have gK1 : IntKind.i64.wrap K1 = K1 := by rw [IntKind.wrap_i64]; omega
  obtain ⟨z, hz⟩ : ∃ z, K1.tmod 5 = z := ⟨_, rfl⟩
  obtain ⟨K, hK⟩ : ∃ K, ((PMa.stepOf s : Nat) : Int) = K := ⟨_, rfl⟩
  have HK := Lib.hid hK
  have HZ : Hid ((z = 0 ∧ K = 1) ∨ (¬ z = 0 ∧ K = K1)) := Lib.hid (by
    rw [← hz, ← hK, Int.tmod_eq_emod_of_nonneg (by omega)]
    unfold PMa.stepOf
    split
    · exact .inl ⟨by omega, rfl⟩
    · exact .inr ⟨by omega, by omega⟩)
  have HKb : Hid (1 ≤ K ∧ K ≤ 39) := Lib.hid (by
    rcases HZ.out with ⟨_, h⟩ | ⟨_, h⟩ <;> omega)
  have AW := Lib.hid (fun wz => aw13_any wz)
  obtain ⟨w1, hw1, X1, b1⟩ := one_box w (.slice none 0 0) 26
  have HX1 := Lib.hid X1; have HW1 := Lib.hid hw1; have B1 := Lib.hid b1
  clear hQ h0 h1 x0 x1 t0 t1 hs20 ht60 hK hw1 X1 b1
  go_enter Try.func5, Try.ntmps5
  go_upto_if 29 with fail
  rw [HW1.out]
  clear HW1
  go_cut [7] (fun v wx => v = .int .i64 K ∧ w1 = wx)
  case first =>
    rcases HZ.out with ⟨hz0, hk1⟩ | ⟨hz0, hk1⟩
    · subst hk1
      have hzz : (z == 0) = true := by rw [beq_iff_eq]; exact hz0
      clear hz0
      go_wp2_with fail
      go_meet
      exact ⟨rfl, rfl⟩
    · subst hk1
      have hzz : (z == 0) = false := by rw [beq_eq_false_iff_ne]; exact hz0
      clear hz0
      go_wp2_with fail
      go_meet
      exact ⟨rfl, rfl⟩
  case rest =>
    obtain ⟨rfl, rfl⟩ := hcut
    clear hs g2 gs hK1 gK1 hz HZ
    go_wp2_with fail
    go_loopw [6, 30] (fun id i wx => ∃ (j : Nat) (A : Option Addr) (n c : Nat), id = .int .i64 ((PMa.runTo (PMa.stepOf s) j).id : Nat) ∧ i = .int .i64 j ∧ j ≤ 50 ∧ Hid (MaI wx A n c (PMa.runTo (PMa.stepOf s) j).M) ∧ Hid (Box wx w.heap.size [.slice A n c]) ∧ Hid (Below w.heap.size w wx)) (fun _ i _ => 50 - (intOf i).toNat)
    case atStart => exact ⟨0, none, 0, 0, rfl, rfl, Nat.zero_le _, Lib.hid (maI_nil _), HX1, B1⟩
    case round =>
      obtain ⟨j, A, n, c, rfl, rfl, hj, HI, HX, HB⟩ := hrel
      by_cases hlt : j < 50
      · have gj : (j : Int) < 50 := by omega
        have RS := PMa.run_step HS.out hlt
        have hid : (PMa.runTo (PMa.stepOf s) (j + 1)).id = ((PMa.runTo (PMa.stepOf s) j).id + PMa.stepOf s) % 50 := rfl
        have hd50 := PMa.run_id (PMa.stepOf s) j
        obtain ⟨d, hd⟩ : ∃ d, (PMa.runTo (PMa.stepOf s) j).id = d := ⟨_, rfl⟩
        obtain ⟨e, he⟩ : ∃ e, (d + PMa.stepOf s) % 50 = e := ⟨_, rfl⟩
        rw [hd, he] at RS hid
        rw [hd] at hd50 ⊢
        obtain ⟨k1, k2⟩ := HKb.out
        have he50 : e < 50 := by rw [← he]; exact Nat.mod_lt _ (by decide)
        obtain ⟨y, hy⟩ : ∃ y, (d : Int) + K = y := ⟨_, rfl⟩
        have gy : IntKind.i64.wrap y = y := by rw [IntKind.wrap_i64]; omega
        have gm : y.tmod 50 = (e : Int) := by
          rw [Int.tmod_eq_emod_of_nonneg (by omega), ← hy, ← HK.out, ← he]
          omega
        have ge : IntKind.i64.wrap ((e : Int) + 1) = (e : Int) + 1 := by rw [IntKind.wrap_i64]; omega
        have ge0 : IntKind.i64.wrap (e : Int) = (e : Int) := by rw [IntKind.wrap_i64]; omega
        have gp : IntKind.i64.wrap (24276 + (e : Int)) = 24276 + (e : Int) := by rw [IntKind.wrap_i64]; omega
        have gj1 : IntKind.i64.wrap ((j : Int) + 1) = (j : Int) + 1 := by rw [IntKind.wrap_i64]; omega
        have C := khire_any HI.out (PMa.run_fine _ _) (by have := HI.out.small (PMa.run_few _ _); omega) ((e : Int) + 1) (PMa.rec_ (24276 + (e : Int)) 0)
        rw [RS] at C
        have C := Lib.hid C
        have HID := Lib.hid hid
        have y0 := b1m HX.out
        have hsy := HX.out.1
        clear RS hid hd he hd50 he50 k1 k2
        go_wp2_with (go_at_call 15; refine C.out.mono ?_)
        intro e3 w3 h3
        obtain ⟨A3, n3, c3, rfl, I3, b3⟩ := h3
        obtain ⟨w4, hw4, X4, b4⟩ := one_box w3 (.slice A3 n3 c3) 26
        have b34 := below_step b3 b4
        have XH4 := HX.out.on b34
        obtain ⟨w5, hw5, X5, ON5⟩ := set1 XH4 (.slice A3 n3 c3)
        have I5 := Lib.hid ((I3.on b4).store XH4 ON5)
        have HX5 := Lib.hid X5
        have B5 := Lib.hid (ON5.below (Nat.le_refl _) (below_step HB.out b34))
        obtain ⟨z0, zf⟩ := (⟨b1m X4, b1f X4⟩ : _ ∧ _)
        have hsz := X4.1
        obtain ⟨u0, uf⟩ := (⟨b1m XH4, b1f XH4⟩ : _ ∧ _)
        have hsu := XH4.1
        have HW4 := Lib.hid hw4; have HW5 := Lib.hid hw5
        clear C b3 b4 b34 I3 X4 XH4 X5 ON5 hw4 hw5 y0 hsy
        go_upto_region 10 with fail
        rw [HW4.out]
        clear HW4
        go_wp2_with fail
        rw [HW5.out]
        exact ⟨⟨j + 1, A3, n3, c3, by rw [HID.out], by congr 1, by omega, I5, HX5, B5⟩, by simp [intOf]; omega⟩
      · obtain rfl : j = 50 := by omega
        have I := HI.out
        rw [(PMa.run_full s HS.out).1] at I
        have HI := Lib.hid I
        have C := khire_any I PMa.full_fine (by have := I.small PMa.full_few; omega) 51 (PMa.rec_ 24276 0)
        rw [PMa.full_more] at C
        have C := Lib.hid C
        have y0 := b1m HX.out
        have hsy := HX.out.1
        clear I
        go_wp2_with (go_at_call 15; refine C.out.mono ?_)
        intro e3 w3 h3
        obtain ⟨A3, n3, c3, rfl, I3, b3⟩ := h3
        obtain ⟨w4, hw4, X4, b4⟩ := one_box w3 (.slice A3 n3 c3) 26
        have b34 := below_step b3 b4
        have I4 := HI.out.on b34
        have HI4 := Lib.hid I4
        have HX4 := Lib.hid (HX.out.on b34)
        have B4 := Lib.hid (below_step HB.out b34)
        have CS := kstaff_any I4 PMa.full_fine (few_small PMa.full_few (by omega)) (by have := I4.small PMa.full_few; omega) (24276 + (t : Int))
        rw [PMa.full_staff t HT.out] at CS
        have CS := Lib.hid CS
        have gw : IntKind.i64.wrap (24276 + (t : Int)) = 24276 + (t : Int) := by have := HT.out; rw [IntKind.wrap_i64]; omega
        have y0 := b1m HX4.out
        have hsy := HX4.out.1
        have HW4 := Lib.hid hw4
        clear C b3 b4 b34 I3 I4 X4 hw4
        go_upto_region 15 with fail
        rw [HW4.out]
        clear HW4
        go_wp2_with (go_at_call 10; refine CS.out.mono ?_)
        intro e5 w5 h5
        obtain ⟨A5, c5, rfl, S5, -, b5⟩ := h5
        have HL : Hid ((PMa.staffOf t).length = min (t + 1) 50) := Lib.hid (PMa.staff_len t)
        obtain ⟨L, hL⟩ : ∃ L, (PMa.staffOf t).length = L := ⟨_, rfl⟩
        rw [hL] at S5 HL ⊢
        have HLL := Lib.hid hL
        have HS5 := Lib.hid S5
        have B5 := Lib.hid (below_step B4.out b5)
        have HI5 := Lib.hid (HI4.out.on b5)
        have HX5 := Lib.hid (HX4.out.on b5)
        clear b5 S5 CS y0 hsy hL
        go_wp2_with fail
        go_loopw [65] (fun i wx => ∃ k : Nat, i = .int .i64 k ∧ k ≤ L ∧ w5 = wx) (fun i _ => L - (intOf i).toNat)
        case atStart => exact ⟨0, rfl, Nat.zero_le _, rfl⟩
        case round =>
          obtain ⟨k, rfl, hk, rfl⟩ := hrel
          by_cases hkn : k < L
          · have gk : (k : Int) < (L : Int) := by omega
            have gL : L ≤ 50 := by have := HL.out; omega
            have gk1 : IntKind.i64.wrap ((k : Int) + 1) = (k : Int) + 1 := by rw [IntKind.wrap_i64]; omega
            obtain ⟨bA, oA, rfl, hc⟩ := HS5.out.at hkn
            have c0 := hc k (by rw [HLL.out]; exact hkn) 0 (.int .i64 ((k : Int) + 1)) (by rw [PMa.staff_at]; rfl)
            rw [show oA + k * intM.k + 0 = oA + k by show oA + k * 1 + 0 = oA + k; omega] at c0
            have hsc := World.block_lt_of_cell? _ _ c0
            clear hc
            go_wp2_with fail
            exact ⟨⟨k + 1, by congr 1, by omega, trivial⟩, by simp [intOf]; omega⟩
          · have gk : ¬ (k : Int) < (L : Int) := by omega
            have hI5 := HI5.out.small PMa.full_few
            have C := kleave_any HI5.out PMa.full_fine (by omega) 1 24280
            rw [PMa.full_leave] at C
            have C := Lib.hid C
            have y0 := b1m HX5.out
            have hsy := HX5.out.1
            clear hI5
            go_wp2_with (go_at_call 16; refine C.out.mono ?_)
            intro e6 w6 h6
            obtain ⟨A6, n6, c6, rfl, I6, b6⟩ := h6
            obtain ⟨w7, hw7, X7, b7⟩ := one_box w6 (.slice A6 n6 c6) 26
            have B7 := Lib.hid (below_step B5.out (below_step b6 b7))
            have I7 := I6.on b7
            have hn6 := I7.small PMa.gone_few
            have HI7 := Lib.hid I7
            have C7 := kat_any I7 PMa.gone_fine (few_small PMa.gone_few (by omega)) (by omega) 1 24280
            rw [PMa.gone_off] at C7
            have C7 := Lib.hid C7
            have HX7 := Lib.hid X7
            have y0 := b1m X7
            have hsy := X7.1
            have HW7 := Lib.hid hw7
            clear C b6 b7 I6 I7 X7 hw7
            go_upto_region 24 with fail
            rw [HW7.out]
            clear HW7
            go_wp2_with (go_at_call 13; refine C7.out.mono ?_)
            intro e8 w8 h8
            obtain ⟨rfl, b8⟩ := h8
            obtain ⟨w9, hw9, X9, b9⟩ := seven_box w8 (.int .i64 0) (.int .i64 0) (.int .i64 0) (.int .i64 0) (.int .i64 0) (.int .i64 0) (.bool false) 47
            have b79 := below_step b8 b9
            have B9 := Lib.hid (below_step B7.out b79)
            have C9 := kat_any (HI7.out.on b79) PMa.gone_fine (few_small PMa.gone_few (by omega)) (by omega) 1 24279
            rw [PMa.gone_on] at C9
            have C9 := Lib.hid C9
            have y0 := b1m (HX7.out.on b79)
            have hsy := (HX7.out.on b79).1
            have HW9 := Lib.hid hw9
            clear C7 b8 b9 b79 X9 hw9
            go_upto_region 25 with fail
            rw [HW9.out]
            clear HW9
            go_wp2_with (go_at_call 13; refine C9.out.mono ?_)
            intro ea wa ha
            obtain ⟨rfl, ba⟩ := ha
            obtain ⟨wb, hwb, Xb, bb⟩ := seven_box wa (.int .i64 24276) (.int .i64 0) (.int .i64 0) (.int .i64 0) (.int .i64 0) (.int .i64 0) (.bool false) 47
            have Bb := Lib.hid (below_step B9.out (below_step ba bb))
            have HWb := Lib.hid hwb
            clear C9 ba bb Xb hwb y0 hsy hn6
            unfold PMa.rec_
            go_upto_region 26 with fail
            rw [HWb.out]
            clear HWb
            have ht := HT.out
            have gt1 : IntKind.i64.wrap ((t : Int) + 1) = (t : Int) + 1 := by rw [IntKind.wrap_i64]; omega
            have CA := Lib.hid (AW.out wb)
            by_cases h50 : t + 1 ≤ 50
            · obtain rfl : L = t + 1 := by have := HL.out; omega
              have m1 : (t : Int) + 1 ≤ 50 := by omega
              have m2 : ¬ (50 : Int) < (t : Int) + 1 := by omega
              have m3 : min ((t : Int) + 1) 50 = (t : Int) + 1 := by omega
              clear ht h50
              go_wp2_with (go_at_call 8; refine CA.out.mono ?_)
              intro ed wd hd
              obtain ⟨rfl, bd⟩ := hd
              have Bd := Lib.hid (below_step Bb.out bd)
              clear bd CA
              go_wp2_with fail
              exact FIN.out _ Bd.out
            · obtain rfl : L = 50 := by have := HL.out; omega
              have m1 : ¬ (t : Int) + 1 ≤ 50 := by omega
              have m2 : (50 : Int) < (t : Int) + 1 := by omega
              have m3 : min ((t : Int) + 1) 50 = 50 := by omega
              clear ht h50
              go_wp2_with (go_at_call 8; refine CA.out.mono ?_)
              intro ed wd hd
              obtain ⟨rfl, bd⟩ := hd
              have Bd := Lib.hid (below_step Bb.out bd)
              clear bd CA
              go_wp2_with fail
              exact FIN.out _ Bd.out
end Go.Proofs.Ytbnnmakmgleikaa
