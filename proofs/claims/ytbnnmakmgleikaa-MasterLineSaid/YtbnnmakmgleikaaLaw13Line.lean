/-
  Of records from rising months on each counts till the next one does: the landed master keeps to it.
-/
import Derived.Test.YtbnnmakmgleikaaLaw13Awake
import Derived.Test.YtbnnmakmgleikaaMaLineMath
import Derived.Test.YtbnnmakmgleikaaSaidKit
set_option linter.unusedVariables false
set_option linter.unusedSimpArgs false
namespace Go.Proofs.Ytbnnmakmgleikaa
open Go.RowKit

theorem fine_one0 : PMa.Fine (PMa.one [PMa.rec_ 24276 0]) := by have := PMa.fine_hire PMa.Fine.nil 1 (PMa.rec_ 24276 0); rw [PMa.one_hire] at this; exact this
theorem slk_on {k : IntKind} {w w' : World} {a : Option Addr} {len : Nat} {l : List Int} (h : SlK k w a len l) (hb : Below w.heap.size w w') : SlK k w' a len l := by
  obtain ⟨h1, h2, h3, h4⟩ := h
  refine ⟨h1, h2, h3, ?_⟩
  rcases h4 with h4 | ⟨b, off, h4, h5⟩
  · exact .inl h4
  · exact .inr ⟨b, off, h4, fun i hi => (hb.cell (World.block_lt_of_cell? w _ (h5 i hi))).trans (h5 i hi)⟩
set_option maxRecDepth 100000 in
set_option maxHeartbeats 12800000 in
theorem lline_walk (A : Option Addr) (n cap : Nat) (l : List Int) (when : Int) (w : World) (hA : SlK .u8 w A n l) (hw : (Lit.int .u16 when).wf = true) :
    Calls Try.prog 7 #[.slice A n cap, .int .u16 when] w fun e w' => e = .returned (.bool true) ∧ Below w.heap.size w w' := by
  obtain ⟨Q, hQ⟩ : ∃ Q : Ending → World → Prop, (fun e w' => e = .returned (.bool true) ∧ Below w.heap.size w w') = Q := ⟨_, rfl⟩
  rw [hQ]
  have FIN : Hid (∀ w', Below w.heap.size w w' → Q (.returned (.bool true)) w') := Lib.hid (fun w' a => by rw [← hQ]; exact ⟨rfl, a⟩)
  have HA := Lib.hid hA
  obtain ⟨x0, x1⟩ := u16_bounds hw
  obtain ⟨x, hx⟩ : ∃ x, when.tmod 8000 = x := ⟨_, rfl⟩
  have hxb : 0 ≤ x ∧ x ≤ 7999 := by rw [← hx, Int.tmod_eq_emod_of_nonneg x0]; omega
  obtain ⟨W, hW⟩ : ∃ W, 24276 + x = W := ⟨_, rfl⟩
  have gx : IntKind.i64.wrap x = x := by rw [IntKind.wrap_i64]; omega
  have gW : IntKind.i64.wrap W = W := by rw [IntKind.wrap_i64]; omega
  have HWb : Hid (24276 ≤ W) := Lib.hid (by omega)
  have AW := Lib.hid (fun wz => aw13_any wz)
  clear hQ hA hw x0 x1
  by_cases h30 : n ≤ 30
  · have g30 : ¬ (30 : Int) < (n : Int) := by omega
    have C1 := khire_any (maI_nil w) PMa.Fine.nil (by omega) 1 (PMa.rec_ 24276 0)
    rw [PMa.one_hire] at C1
    have C1 := Lib.hid C1
    clear hxb
    go_enter Try.func7, Try.ntmps7
    go_wp2_with (go_at_call 15; refine C1.out.mono ?_)
    intro e1 w1 h1
    obtain ⟨A1, n1, c1, rfl, I1, b1⟩ := h1
    obtain ⟨w2, hw2, X2, b2⟩ := one_box w1 (.slice A1 n1 c1) 26
    have B2 := Lib.hid (below_step b1 b2)
    have I2 := Lib.hid (I1.on b2)
    have HX2 := Lib.hid X2
    have HW2 := Lib.hid hw2
    have HB1 := Lib.hid b1.size
    obtain ⟨H, hH⟩ : ∃ H, w1.heap.size = H := ⟨_, rfl⟩
    clear C1 I1 b1 b2 hw2 X2
    go_upto_region 4 with fail
    rw [HW2.out]
    rw [hH] at HX2 HB1
    clear HW2 hH
    go_wp2_with fail
    go_loopw [7, 8, 34] (fun at_ wt i wx => ∃ (k : Nat) (a t : Int) (recs : List PMa.Rcd) (A' : Option Addr) (n' c' : Nat), at_ = .int .i64 a ∧ wt = .int .i64 t ∧ i = .int .i64 k ∧ k ≤ n ∧ Hid (PMa.Line W k a t recs) ∧ Hid (PMa.Fine (PMa.one recs)) ∧ Hid (MaI wx A' n' c' (PMa.one recs)) ∧ Hid (Box wx H [.slice A' n' c']) ∧ Hid (Below w.heap.size w wx)) (fun _ _ i _ => n - (intOf i).toNat)
    case atStart => exact ⟨0, _, _, _, A1, n1, c1, rfl, rfl, rfl, Nat.zero_le _, Lib.hid (PMa.Line.start W HWb.out), Lib.hid fine_one0, I2, HX2, B2⟩
    case round =>
      obtain ⟨k, a, t, recs, A', n', c', rfl, rfl, rfl, hk, HL, HF, HI, HX, HB⟩ := hrel
      have hsz := HL.out.len
      have hlo := HL.out.lo
      have hhi := HL.out.hi
      by_cases hlt : k < n
      · have gk : (k : Int) < (n : Int) := by omega
        have S := slk_on HA.out HB.out
        obtain ⟨g0, g1⟩ := u8_bounds (S.2.1 k hlt)
        obtain ⟨b, off, rfl, hc⟩ : ∃ b off, A = some ⟨b, off, none⟩ ∧ ∀ i, i < n → wr.cell? ⟨b, off + i, none⟩ = some (.int .u8 (l.getD i 0)) := by
          rcases S.2.2.2 with h | h
          · omega
          · exact h
        have c0 := hc k hlt
        have hsc := World.block_lt_of_cell? wr _ c0
        obtain ⟨g, hg⟩ : ∃ g, l.getD k 0 = g := ⟨_, rfl⟩
        rw [hg] at c0 g0 g1
        obtain ⟨d, hd⟩ : ∃ d, 1 + g = d := ⟨_, rfl⟩
        obtain ⟨a', ha'⟩ : ∃ a', a + d = a' := ⟨_, rfl⟩
        have HD : Hid (1 ≤ d ∧ d ≤ 256) := Lib.hid (by omega)
        have gg : IntKind.i64.wrap g = g := by rw [IntKind.wrap_i64]; omega
        have gd : IntKind.i64.wrap d = d := by rw [IntKind.wrap_i64]; omega
        have ga : IntKind.i64.wrap a' = a' := by rw [IntKind.wrap_i64]; omega
        have gk1 : IntKind.i64.wrap ((k : Int) + 1) = (k : Int) + 1 := by rw [IntKind.wrap_i64]; omega
        have CH := HL.out.change (by omega) HD.out.1 HD.out.2
        have LN := Lib.hid (HL.out.step HD.out.1 HD.out.2)
        have FN := PMa.fine_change HF.out 1 (PMa.rec_ (a + d) ((k : Int) + 1))
        rw [CH] at FN
        have C := kchange_any HI.out HF.out (by have := HI.out.s.len; simp only [PMa.one, List.length_singleton] at this; omega) (fun p hp => by
          obtain rfl : p = ⟨1, 24276, 0, recs, []⟩ := by simpa [PMa.one] using hp
          show recs.length ≤ 80000
          omega) 1 (PMa.rec_ (a + d) ((k : Int) + 1))
        rw [CH] at C
        rw [ha'] at C FN LN
        have C := Lib.hid C; have HFN := Lib.hid FN
        obtain ⟨y0, yf⟩ := (⟨b1m HX.out, b1f HX.out⟩ : _ ∧ _)
        have hsy := HX.out.1
        clear CH FN S hc hg g0 g1 hsz hlo hhi
        go_wp2_with (go_at_call 18; refine C.out.mono ?_)
        intro e3 w3 h3
        obtain ⟨A3, n3, c3, rfl, I3, b3⟩ := h3
        obtain ⟨w4, hw4, X4, b4⟩ := one_box w3 (.slice A3 n3 c3) 26
        have b34 := below_step b3 b4
        have XH4 := HX.out.on b34
        obtain ⟨w5, hw5, X5, ON5⟩ := set1 XH4 (.slice A3 n3 c3)
        have I5 := Lib.hid ((I3.on b4).store XH4 ON5)
        have HX5 := Lib.hid X5
        have hbH : w.heap.size ≤ H := HB1.out
        have B5 := Lib.hid (ON5.below hbH (below_step HB.out b34))
        obtain ⟨z0, zf⟩ := (⟨b1m X4, b1f X4⟩ : _ ∧ _)
        have hsz := X4.1
        obtain ⟨u0, uf⟩ := (⟨b1m XH4, b1f XH4⟩ : _ ∧ _)
        have hsu := XH4.1
        have HW4 := Lib.hid hw4; have HW5 := Lib.hid hw5
        clear C b3 b4 b34 I3 X4 XH4 X5 ON5 hw4 hw5 y0 yf hsy c0 hsc
        go_upto_region 11 with fail
        rw [HW4.out]
        clear HW4
        by_cases hle : a' ≤ W
        · have LN := Lib.hid (by have h := LN.out; rw [if_pos hle] at h; exact h : PMa.Line W (k + 1) a' ((k : Int) + 1) (recs ++ [PMa.rec_ a' ((k : Int) + 1)]))
          go_wp2_with fail
          rw [HW5.out]
          exact ⟨⟨k + 1, a', (k : Int) + 1, _, A3, n3, c3, rfl, rfl, by congr 1, by omega, LN, HFN, I5, HX5, B5⟩, by simp [intOf]; omega⟩
        · have LN := Lib.hid (by have h := LN.out; rw [if_neg hle] at h; exact h : PMa.Line W (k + 1) a' t (recs ++ [PMa.rec_ a' ((k : Int) + 1)]))
          go_wp2_with fail
          rw [HW5.out]
          exact ⟨⟨k + 1, a', t, _, A3, n3, c3, rfl, rfl, by congr 1, by omega, LN, HFN, I5, HX5, B5⟩, by simp [intOf]; omega⟩
      · obtain rfl : k = n := by omega
        have gk : ¬ (k : Int) < (k : Int) := by omega
        have gkk : IntKind.i64.wrap ((k : Int) + 1) = (k : Int) + 1 := by rw [IntKind.wrap_i64]; omega
        have hn' : n' ≤ 50 := by have := HI.out.s.len; simp only [PMa.one, List.length_singleton] at this; omega
        have hSm : MaSmall (PMa.one recs) := fun p hp => by
          obtain rfl : p = ⟨1, 24276, 0, recs, []⟩ := by simpa [PMa.one] using hp
          exact ⟨by show recs.length ≤ 80000; omega, by show (0 : Nat) ≤ 80000; omega⟩
        obtain ⟨q, hq1, hq2⟩ := HL.out.at_ HWb.out
        have C := kat_any HI.out HF.out hSm (by omega) 1 W
        rw [hq1] at C
        have C := Lib.hid C
        have y0 := b1m HX.out
        have hsy := HX.out.1
        have HSZ := Lib.hid hsz
        clear hq1 hSm hsz hlo hhi
        obtain ⟨q0, q1, q2, q3, q4, q5, q6⟩ := q
        dsimp only at hq2
        subst hq2
        go_wp2_with (go_at_call 13; refine C.out.mono ?_)
        intro e3 w3 h3
        obtain ⟨rfl, b3⟩ := h3
        obtain ⟨w4, hw4, X4, b4⟩ := seven_box w3 (.int .i64 q0) (.int .i64 q1) (.int .i64 q2) (.int .i64 q3) (.int .i64 q4) (.int .i64 q5) (.bool q6) 47
        have b34 := below_step b3 b4
        have I4 := HI.out.on b34
        have CF := kfind_any I4 HF.out (by omega) 1
        rw [PMa.one_find] at CF
        have CF := Lib.hid CF
        have XH4 := HX.out.on b34
        have y0 := b1m XH4
        have hsy := XH4.1
        have HW4 := Lib.hid hw4; have HX4 := Lib.hid X4; have B4 := Lib.hid (below_step HB.out b34)
        clear C b3 b4 b34 I4 XH4 hw4 X4
        go_upto_region 18 with fail
        rw [HW4.out]
        clear HW4
        go_wp2_with (go_at_call 14; refine CF.out.mono ?_)
        intro e5 w5 h5
        obtain ⟨⟨rid, rh, rg, rA, rn, rc, rB, rm, rd⟩, rfl, hok, b5⟩ := h5
        have hrn : recs.length = rn := hok.recs.1
        obtain rfl : rn = k + 1 := by have := HSZ.out; omega
        dsimp only
        obtain ⟨w6, hw6, X6, b6⟩ := raw_box w5 (.int .i64 rid) (.int .i64 rh) (.int .i64 rg) (.slice rA (k + 1) rc) (.slice rB rm rd) 53
        have b46 := below_step b5 b6
        obtain ⟨v0, v1, v2, v3, v4, v5, v6⟩ := box7 (HX4.out.on b46)
        have hsv := (HX4.out.on b46).1
        obtain ⟨z0, z1, z2, z3, z4⟩ := box5 X6
        have hsz := X6.1
        have B6 := Lib.hid (below_step B4.out b46)
        have HW6 := Lib.hid hw6
        have CA := Lib.hid (AW.out w6)
        clear CF hok hrn b5 b6 b46 X6 hw6 y0 hsy
        go_upto_region 19 with fail
        rw [HW6.out]
        clear HW6
        go_wp2_with (go_at_call 8; refine CA.out.mono ?_)
        intro e7 w7 h7
        obtain ⟨rfl, b7⟩ := h7
        have B7 := Lib.hid (below_step B6.out b7)
        clear b7 CA
        go_wp2_with fail
        exact FIN.out _ B7.out
  · have g30 : (30 : Int) < (n : Int) := by omega
    clear hxb gx gW hx hW
    go_enter Try.func7, Try.ntmps7
    go_wp2_with (go_at_call 8; refine (AW.out _).mono ?_)
    intro e1 w1 h1
    obtain ⟨rfl, b1⟩ := h1
    have B1 := Lib.hid b1
    clear b1
    go_wp2_with fail
    exact FIN.out _ B1.out
end Go.Proofs.Ytbnnmakmgleikaa
