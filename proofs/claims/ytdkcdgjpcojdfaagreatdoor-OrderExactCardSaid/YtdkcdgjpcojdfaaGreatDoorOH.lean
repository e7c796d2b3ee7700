/-
  What the landed order answers: the rules that each one hangs on, by bits: the walk.
  What the landed order answers: an order of the rules of what was read, or the error.
-/
import Derived.Test.YtdkcdgjpcojdfaaGreatDoorON

set_option linter.unusedVariables false
namespace Go.Proofs.YtdkcdgjpcojdfaaGreatDoor
open Go.RowKit
open PCheck (Xp Bd)
open PTree (Tr Rl Ex Wf X0)
open POrd (Bset Vset)

def OnAns (n : Nat) (H : Nat → Nat → Bool) (w : World) (e : Ending) (w' : World) : Prop := ∃ A c V, e = .returned (.slice A n c) ∧ SlX u64R w' A n V ∧ Vset V n H ∧ Below w.heap.size w w'
theorem set_at (V : List Nat) (i a k : Nat) (hi : i < V.length) : (V.set i a).getD k 0 = if k = i then a else V.getD k 0 := by
  by_cases e : k = i
  · subst e; rw [if_pos rfl]; simp [List.getD, hi]
  · rw [if_neg e]; simp only [List.getD, List.getElem?_set_ne (Ne.symm e)]
set_option maxHeartbeats 12800000 in
set_option maxRecDepth 100000 in
theorem khanging_any {w : World} {n c rn rc mb mn : Nat} {A RA : Option Addr} {rs : List Rl} (hR : SlX rlR w RA rn (rwX rs)) (hE : SlX xpR w A n (xpX rs)) (hW : ∀ r ∈ rs, Wf X0 r.tree) (hn : n ≤ 1000) (hc : n ≤ c) (hrn : rn ≤ 60)
    (hM : MapOf w mb mn (nmF (nmR (rwX rs)) rn)) (hD : ∀ j, j < rn → POrd.dup (nmR (rwX rs)) j = false) (hnl : ∀ x ∈ xpX rs, x.name.length ≤ maxLen) :
    Calls Tryz.prog 33 #[.agg #[.slice RA rn rc, .slice A n c], .map (some mb)] w (OnAns rn (POrd.hangs rs) w) := by
  obtain ⟨Q, hQ⟩ : ∃ Q, OnAns rn (POrd.hangs rs) w = Q := ⟨_, rfl⟩
  rw [hQ]
  have hrl : rs.length = rn := by rw [← rwX_len rs]; exact hR.1
  have hEl : (xpX rs).length = n := hE.1
  have hsl : PTree.sizeOf rs = n := by rw [← hEl, xpX_len]
  have hnn : (nmR (rwX rs)).length = rn := by rw [nmR_len]; exact hR.1
  have FIN : Hid (∀ (K : Nat) (V : List Nat) (w' : World), RwU w' K rn V → Vset V rn (POrd.hangs rs) → Below w.heap.size w w' → Q (.returned (.slice (some ⟨K, 0, none⟩) rn rn)) w') := Lib.hid (fun K V w' h1 h2 a => by
    rw [← hQ]
    exact ⟨_, _, V, rfl, h1.slx, h2, a⟩)
  obtain ⟨w1, hw1, XB, b1⟩ : ∃ w1, w.alloc (.cells #[.slice RA rn rc, .slice A n c] 32) = w1 ∧ Box w1 w.heap.size [.slice RA rn rc, .slice A n c] ∧ Below w.heap.size w w1 := ⟨_, rfl, Box.new _ _ [.slice RA rn rc, .slice A n c], (Below.refl _ _).alloc (Nat.le_refl _) _⟩
  obtain ⟨K, hK⟩ : ∃ K, w1.heap.size = K := ⟨_, rfl⟩
  have hmk := make_rowU rn (by omega) w1
  obtain ⟨w2, hw2, U2, b2⟩ : ∃ w2, w1.alloc (.cells (madeCells #[.int .u64 0] rn) 123) = w2 ∧ RwU w2 w1.heap.size rn (List.replicate rn 0) ∧ Below w1.heap.size w1 w2 := ⟨_, rfl, made_rwU w1 rn, (Below.refl _ _).alloc (Nat.le_refl _) _⟩
  rw [hw2] at hmk
  have hs2 : K < w2.heap.size := by rw [← hw2, ← hK]; simp
  have HXB := Lib.hid XB; have HR := Lib.hid (hR.on b1); have HE := Lib.hid (hE.on b1); have HM := Lib.hid (hM.on b1); have B1 := Lib.hid b1; have HW1 := Lib.hid hw1; have HK := Lib.hid hK; have HMK := Lib.hid hmk
  have HRL := Lib.hid hrl; have HEL := Lib.hid hEl; have HSZ := Lib.hid hsl; have HWf := Lib.hid hW; have HD := Lib.hid hD; have HNN := Lib.hid hnn; have HNL := Lib.hid hnl
  have HU2 : Hid (RwU w2 K rn (List.replicate rn 0)) := Lib.hid (by rw [← hK]; exact U2)
  have B2 : Hid (Below K w1 w2) := Lib.hid (by rw [← hK]; exact b2)
  have HS2 := Lib.hid hs2
  obtain ⟨x0, x1⟩ := px2 XB
  have hsx := XB.1
  clear hQ hR hE hM XB b1 hw1 hK hmk hw2 U2 b2 hs2 hrl hEl hsl hW hD hnn hnl
  go_enter Tryz.func33, Tryz.ntmps33
  go_upto_region 1 with fail
  rw [HW1.out]
  clear HW1
  have hmk := HMK.out
  go_upto_region 2 with fail
  clear hmk HMK x0 x1 hsx
  rw [HK.out]
  obtain ⟨x0, x1⟩ := px2 ((HXB.out.on (by rw [HK.out]; exact B2.out)))
  have hsx := ((HXB.out.on (by rw [HK.out]; exact B2.out)) : Box w2 _ _).1
  go_wp2_with fail
  clear x0 x1 hsx
  go_loopw [6, 20] (fun f x wx => ∃ (i : Nat) (V : List Nat), x = .int .i64 i ∧ i ≤ rn ∧ f = .int .i64 (offs rs i : Nat) ∧ Hid (RwU wx K rn V) ∧ Hid (∀ i', i' < i → V.getD i' 0 < 1152921504606846976 ∧ ∀ k, (V.getD i' 0).testBit k = (decide (k < rn) && POrd.hangs rs i' k)) ∧ Hid (∀ i', i ≤ i' → V.getD i' 0 = 0) ∧ Hid (Below K w1 wx) ∧ Hid (K < wx.heap.size)) (fun _ x _ => rn - (intOf x).toNat)
  case atStart => exact ⟨0, List.replicate rn 0, rfl, Nat.zero_le _, by rw [offs_zero]; rfl, HU2, (show Hid _ from fun j h => absurd h (Nat.not_lt_zero _)), Lib.hid (fun i' _ => by
      rw [List.getD, List.getElem?_replicate]
      by_cases h : i' < rn
      · rw [if_pos h]; rfl
      · rw [if_neg h]; rfl), B2, HS2⟩
  case round =>
    clear HU2 B2 HS2
    obtain ⟨i, V, rfl, hi, rfl, I1, I2, I3, I4, I5⟩ := hrel
    have IW : Below w1.heap.size w1 wr := by rw [HK.out]; exact I4.out
    obtain ⟨x0, x1⟩ := px2 (HXB.out.on IW)
    have hsx := (HXB.out.on IW).1
    by_cases hin : i < rn
    · have gi : (i : Int) < (rn : Int) := by omega
      obtain ⟨r, hr⟩ : ∃ r, rs[i]? = some r := ⟨_, List.getElem?_eq_getElem (by rw [HRL.out]; exact hin)⟩
      have hra := rw_at hr
      have hle := offs_le hr
      rw [HSZ.out] at hle
      have hpos := r.tree.size_pos
      have hsucc := offs_succ hr
      obtain ⟨o, ho⟩ : ∃ o, offs rs i = o := ⟨_, rfl⟩
      obtain ⟨m, hm⟩ : ∃ m, r.tree.size = m := ⟨_, rfl⟩
      rw [ho, hm] at hra hle hsucc
      rw [hm] at hpos
      rw [ho]
      have RW := HR.out.on IW
      obtain ⟨rb, ro, rfl, -⟩ := RW.at hin
      obtain ⟨c0, c1, c2⟩ := rl_cell RW hin hra
      have c0 : wr.cell? ⟨rb, ro + i * 3, none⟩ = some (.string ⟨r.kind.toArray⟩) := c0
      have c1 : wr.cell? ⟨rb, ro + i * 3 + 1, none⟩ = some (.string ⟨r.name.toArray⟩) := c1
      have c2 : wr.cell? ⟨rb, ro + i * 3 + 2, none⟩ = some (.int .i64 ((o + m - 1 : Nat) : Int)) := c2
      have hsc := World.block_lt_of_cell? wr _ c0
      obtain ⟨ab, ao, rfl, -⟩ := (HE.out.on IW).at (show 0 < n by omega)
      obtain ⟨R, hRm⟩ : ∃ R, o + m = R + 1 := ⟨o + m - 1, by omega⟩
      rw [show o + m - 1 = R by omega] at c2
      obtain ⟨w9, hw9, SB, b9⟩ : ∃ w9, wr.alloc (.cells #[.string { data := #[] }, .string { data := #[] }, .int .i64 0] 60) = w9 ∧ Box w9 wr.heap.size [.string { data := #[] }, .string { data := #[] }, .int .i64 0] ∧ Below wr.heap.size wr w9 := ⟨_, rfl, Box.new _ _ [.string { data := #[] }, .string { data := #[] }, .int .i64 0], (Below.refl _ _).alloc (Nat.le_refl _) _⟩
      obtain ⟨w10, hw10, X10, ON10⟩ := st3x SB (.string ⟨r.kind.toArray⟩) (.string ⟨r.name.toArray⟩) (.int .i64 (R : Int))
      have b10 : Below wr.heap.size wr w10 := ON10.below (Nat.le_refl _) b9
      obtain ⟨u0, u1, u2⟩ := bx3 X10
      have hs10 := X10.1
      obtain ⟨s0, s1, s2⟩ := bx3 SB
      obtain ⟨m0, m1, m2⟩ := bx3f SB
      have hs9 := SB.1
      have y0 := (b10.cell (World.block_lt_of_cell? wr _ x0)).trans x0
      have y1 := (b10.cell (World.block_lt_of_cell? wr _ x1)).trans x1
      have hsy := World.block_lt_of_cell? w10 _ y0
      have B10 : Hid (Below K w1 w10) := Lib.hid (I4.out.trans (b10.mono (Nat.le_of_lt I5.out)))
      have S10 : Hid (K < w10.heap.size) := Lib.hid (Nat.lt_of_lt_of_le I5.out b10.size)
      have U10 : Hid (RwU w10 K rn V) := Lib.hid (I1.out.on b10)
      have HX10 := Lib.hid X10
      have HKr : Hid (wr.heap.size ≠ K) := Lib.hid (by have := I5.out; omega)
      have HW10 := Lib.hid hw10; have HRr := Lib.hid hr; have HO := Lib.hid ho; have HMm := Lib.hid hm; have HSU := Lib.hid hsucc
      have g1 : (o : Int) ≤ (R : Int) + 1 := by omega
      have g2 : (R : Int) + 1 ≤ (c : Int) := by omega
      have g3 : ¬ c = o := by omega
      have g4 : (o : Int) ≤ (c : Int) := by omega
      clear SB X10 ON10 b9 b10 hw10 hr hra ho hm hsucc RW I1 I4 I5 IW
      go_upto_region 6 with fail
      rw [HW10.out]
      clear HW10 hw9 s0 s1 s2 m0 m1 m2 hs9 c0 c1 c2 hsc x0 x1 hsx
      go_wp2_with fail
      rw [show R + 1 - o = m by omega]
      clear y0 y1 hsy u0 u1 u2 hs10 g1 g2 g3 g4
      obtain ⟨wo, hwo⟩ : ∃ wo, wo = wr := ⟨_, rfl⟩
      subst hwo
      have hVl : V.length = rn := U10.out.1
      have HV0 : Hid (RwU w10 K rn (V.set i 0)) := Lib.hid (by
        have e : V.set i 0 = V := by
          have h0 := I3.out i (Nat.le_refl _)
          have hil : i < V.length := by omega
          rw [List.getD, List.getElem?_eq_getElem hil] at h0
          conv => rhs; rw [← List.set_getElem_self hil]
          rw [show V[i] = 0 from h0]
        rw [e]; exact U10.out)
      have HVL := Lib.hid hVl
      have HA0 : Hid (Acc rs (nmR (rwX rs)) i 0 0) := Lib.hid (acc_zero _ _ _)
      clear hVl U10
      go_loopw [33] (fun x wx => ∃ (j a : Nat), x = .int .i64 j ∧ j ≤ m ∧ Hid (RwU wx K rn (V.set i a)) ∧ Hid (Acc rs (nmR (rwX rs)) i j a) ∧ Hid (Below K w1 wx) ∧ Hid (K < wx.heap.size) ∧ Hid (Box wx wo.heap.size [.string ⟨r.kind.toArray⟩, .string ⟨r.name.toArray⟩, .int .i64 (R : Int)])) (fun x _ => m - (intOf x).toNat)
      case atStart => exact ⟨0, 0, rfl, Nat.zero_le _, HV0, HA0, B10, S10, HX10⟩
      case round =>
        clear HV0 HA0 B10 S10 HX10
        obtain ⟨j, a, rfl, hj, J1, J2, J3, J4, J5⟩ := hrel
        have JW : Below w1.heap.size w1 wr := by rw [HK.out]; exact J3.out
        by_cases hjm : j < m
        · have gj : (j : Int) < (m : Int) := by omega
          have hxE : o + j < (xpX rs).length := by rw [HEL.out]; omega
          obtain ⟨x, hx⟩ : ∃ x, (xpX rs)[offs rs i + j]? = some x := ⟨_, List.getElem?_eq_getElem (by rw [HO.out]; exact hxE)⟩
          obtain ⟨ab', ao', e0, cE⟩ := (HE.out.on JW).at (show 0 < n by omega)
          cases e0
          have cx := cE (o + j) hxE
          have hx' : (xpX rs)[o + j] = x := by
            have := hx; rw [HO.out, List.getElem?_eq_getElem hxE] at this; exact Option.some.inj this
          rw [hx'] at cx
          have hnx := HNL.out x (List.mem_of_getElem? hx)
          obtain ⟨op, nm, vl, ya, yb, yc⟩ := x
          have ea : ao + (o + j) * 6 = ao + o * 6 + j * 6 := by omega
          have l0 : wr.cell? ⟨ab, ao + o * 6 + j * 6, none⟩ = some (.string ⟨op.toArray⟩) := by rw [← ea]; exact cx 0 _ rfl
          have l1 : wr.cell? ⟨ab, ao + o * 6 + j * 6 + 1, none⟩ = some (.string ⟨nm.toArray⟩) := by rw [← ea]; exact cx 1 _ rfl
          have l2 : wr.cell? ⟨ab, ao + o * 6 + j * 6 + 2, none⟩ = some (.int .i64 vl) := by rw [← ea]; exact cx 2 _ rfl
          have l3 : wr.cell? ⟨ab, ao + o * 6 + j * 6 + 3, none⟩ = some (.int .i64 ya) := by rw [← ea]; exact cx 3 _ rfl
          have l4 : wr.cell? ⟨ab, ao + o * 6 + j * 6 + 4, none⟩ = some (.int .i64 yb) := by rw [← ea]; exact cx 4 _ rfl
          have l5 : wr.cell? ⟨ab, ao + o * 6 + j * 6 + 5, none⟩ = some (.int .i64 yc) := by rw [← ea]; exact cx 5 _ rfl
          obtain ⟨w11, hw11, SB, b11⟩ : ∃ w11, wr.alloc (.cells #[.string { data := #[] }, .string { data := #[] }, .int .i64 0, .int .i64 0, .int .i64 0, .int .i64 0] 58) = w11 ∧ Box w11 wr.heap.size [.string { data := #[] }, .string { data := #[] }, .int .i64 0, .int .i64 0, .int .i64 0, .int .i64 0] ∧ Below wr.heap.size wr w11 := ⟨_, rfl, Box.new _ _ [.string { data := #[] }, .string { data := #[] }, .int .i64 0, .int .i64 0, .int .i64 0, .int .i64 0], (Below.refl _ _).alloc (Nat.le_refl _) _⟩
          obtain ⟨w12, hw12, X12, ON12⟩ := store6 SB (.string ⟨op.toArray⟩) (.string ⟨nm.toArray⟩) (.int .i64 vl) (.int .i64 ya) (.int .i64 yb) (.int .i64 yc)
          have b12 : Below wr.heap.size wr w12 := ON12.below (Nat.le_refl _) b11
          obtain ⟨u0, u1, u2, u3, u4, u5⟩ := box6 X12
          have hs12 := X12.1
          obtain ⟨s0, s1, s2, s3, s4, s5⟩ := box6 SB
          obtain ⟨m0, m1, m2, m3, m4, m5⟩ := box6f SB
          have hs11 := SB.1
          have hsl := World.block_lt_of_cell? wr _ l0
          have B12 : Hid (Below K w1 w12) := Lib.hid (J3.out.trans (b12.mono (Nat.le_of_lt J4.out)))
          have S12 : Hid (K < w12.heap.size) := Lib.hid (Nat.lt_of_lt_of_le J4.out b12.size)
          have U12 : Hid (RwU w12 K rn (V.set i a)) := Lib.hid (J1.out.on b12)
          have Z12 : Hid (Box w12 wo.heap.size [.string ⟨r.kind.toArray⟩, .string ⟨r.name.toArray⟩, .int .i64 (R : Int)]) := Lib.hid (J5.out.on b12)
          have M12 := HM.out.on (below_step JW b12)
          have HW12 := Lib.hid hw12
          have hcs := name_cases (names := nmR (rwX rs)) (by rw [HNN.out]; exact HD.out) nm
          rw [HNN.out] at hcs
          have HX := Lib.hid hx
          clear cE cx hx hx' ea X12 ON12 SB b11 b12 hw12 J1 J3 J4 J5 JW hxE
          by_cases hop : op = PCheck.nameS
          · simp only [PCheck.nameS] at hop
            subst hop
            rcases hcs with ⟨hf, hno⟩ | ⟨hf, hno⟩ | ⟨z, hz, hf, hno⟩
            · have hlk := mapOf_miss M12 nm hnx hf
              have AN : Hid (Acc rs (nmR (rwX rs)) i (j + 1) a) := Lib.hid (acc_skip J2.out HX.out (.inr hno))
              clear M12 hf hno J2
              go_upto_region 9 with fail
              rw [HW12.out]
              clear HW12 hw11 s0 s1 s2 s3 s4 s5 m0 m1 m2 m3 m4 m5 hs11 l0 l1 l2 l3 l4 l5 hsl
              go_wp2_with fail
              exact ⟨⟨j + 1, a, rfl, by omega, U12, AN, B12, S12, Z12⟩, by simp [intOf]; omega⟩
            · have hlk := mapOf_hit M12 nm hnx hf
              have AN : Hid (Acc rs (nmR (rwX rs)) i (j + 1) a) := Lib.hid (acc_skip J2.out HX.out (.inr hno))
              clear M12 hf hno J2
              go_upto_region 9 with fail
              rw [HW12.out]
              clear HW12 hw11 s0 s1 s2 s3 s4 s5 m0 m1 m2 m3 m4 m5 hs11 l0 l1 l2 l3 l4 l5 hsl
              go_wp2_with fail
              exact ⟨⟨j + 1, a, rfl, by omega, U12, AN, B12, S12, Z12⟩, by simp [intOf]; omega⟩
            · have hlk := mapOf_hit M12 nm hnx hf
              have AN : Hid (Acc rs (nmR (rwX rs)) i (j + 1) (a ||| 2 ^ z)) := Lib.hid (acc_put J2.out HX.out rfl (by rw [HRL.out]; exact hz) (by rw [HRL.out]; exact hrn) hno)
              have hga : (V.set i a).getD i 0 = a := by rw [set_at V i a i (by rw [HVL.out]; exact hin), if_pos rfl]
              obtain ⟨cu, fu⟩ := U12.out.2 i hin
              rw [hga] at cu
              have hbo := bit_or2 J2.out.1 (i := z) (by omega)
              have gz : ((z : Int) == -1) = false := by rw [beq_eq_false_iff_ne]; omega
              have hsk := S12.out
              have UN : Hid (RwU (w12.setCell ⟨K, i, none⟩ (.int .u64 (bits .or .u64 (a : Int) (IntKind.u64.wrap (2 ^ z))))) K rn (V.set i (a ||| 2 ^ z))) := Lib.hid (by
                rw [hbo]
                have := U12.out.set hin (a ||| 2 ^ z)
                rw [List.set_set] at this
                exact this)
              have BN : Hid (Below K w1 (w12.setCell ⟨K, i, none⟩ (.int .u64 (bits .or .u64 (a : Int) (IntKind.u64.wrap (2 ^ z)))))) := Lib.hid (B12.out.setCell (Nat.le_refl _) _)
              have SN : Hid (K < (w12.setCell ⟨K, i, none⟩ (.int .u64 (bits .or .u64 (a : Int) (IntKind.u64.wrap (2 ^ z))))).heap.size) := Lib.hid (by simp only [World.size_setCell]; exact S12.out)
              have ZN : Hid (Box (w12.setCell ⟨K, i, none⟩ (.int .u64 (bits .or .u64 (a : Int) (IntKind.u64.wrap (2 ^ z))))) wo.heap.size [.string ⟨r.kind.toArray⟩, .string ⟨r.name.toArray⟩, .int .i64 (R : Int)]) := Lib.hid (Z12.out.far (by simp only [ne_eq]; have := HKr.out; omega) _)
              clear M12 hf hno J2 hga hbo
              go_upto_region 9 with fail
              rw [HW12.out]
              clear HW12 hw11 s0 s1 s2 s3 s4 s5 m0 m1 m2 m3 m4 m5 hs11 l0 l1 l2 l3 l4 l5 hsl
              go_upto_region 12 with fail
              go_region
              go_wp2_with fail
              exact ⟨⟨j + 1, a ||| 2 ^ z, rfl, by omega, Lib.hid (UN.out.on ((Below.refl _ _).drew)), AN, Lib.hid BN.out.drew, SN, Lib.hid (ZN.out.on ((Below.refl _ _).drew))⟩, by simp [intOf]; omega⟩
          · have ho : (op == [110, 97, 109, 101]) = false := beq_eq_false_iff_ne.2 hop
            have AN : Hid (Acc rs (nmR (rwX rs)) i (j + 1) a) := Lib.hid (acc_skip J2.out HX.out (.inl hop))
            clear M12 hcs J2 hop
            go_upto_region 9 with fail
            rw [HW12.out]
            clear HW12 hw11 s0 s1 s2 s3 s4 s5 m0 m1 m2 m3 m4 m5 hs11 l0 l1 l2 l3 l4 l5 hsl
            go_wp2_with fail
            exact ⟨⟨j + 1, a, rfl, by omega, U12, AN, B12, S12, Z12⟩, by simp [intOf]; omega⟩
        · obtain rfl : j = m := by omega
          obtain ⟨u0, u1, u2⟩ := bx3 J5.out
          have hsu := J5.out.1
          have gj : ¬ (j : Int) < (j : Int) := by omega
          have HRo : Hid ((R : Int) + 1 = ((offs rs (i + 1) : Nat) : Int)) := Lib.hid (by rw [HSU.out]; omega)
          have NB : Hid (∀ i', i' < i + 1 → (V.set i a).getD i' 0 < 1152921504606846976 ∧ ∀ k, ((V.set i a).getD i' 0).testBit k = (decide (k < rn) && POrd.hangs rs i' k)) := Lib.hid (fun i' h => by
            rw [set_at V i a i' (by rw [HVL.out]; exact hin)]
            by_cases e : i' = i
            · subst e
              rw [if_pos rfl]
              refine ⟨J2.out.1, fun k => ?_⟩
              have := acc_end HWf.out HRr.out (by have h := J2.out; rw [← HMm.out] at h; exact h) k
              rw [HRL.out] at this
              exact this
            · rw [if_neg e]; exact I2.out i' (by omega))
          have NZ : Hid (∀ i', i + 1 ≤ i' → (V.set i a).getD i' 0 = 0) := Lib.hid (fun i' h => by
            rw [set_at V i a i' (by rw [HVL.out]; exact hin), if_neg (by omega)]; exact I3.out i' (by omega))
          clear J2 J5 hjm hj JW
          go_wp2_with fail
          exact ⟨⟨i + 1, V.set i a, rfl, by omega, congrArg (Value.int .i64) HRo.out, J1, NB, NZ, J3, J4⟩, by simp [intOf]; omega⟩
    · obtain rfl : i = rn := by omega
      have gi : ¬ (i : Int) < (i : Int) := by omega
      have VS : Hid (Vset V i (POrd.hangs rs)) := Lib.hid ⟨I1.out.1, fun i' h => (I2.out i' h).2, fun v hv => by
        obtain ⟨q, hq, e⟩ := List.getElem_of_mem hv
        have := (I2.out q (by rw [← I1.out.1]; exact hq)).1
        rw [List.getD, List.getElem?_eq_getElem hq, e] at this
        exact this⟩
      clear hin
      go_wp2_with fail
      exact FIN.out K V _ I1.out VS.out (below_step B1.out (by rw [HK.out]; exact I4.out))
end Go.Proofs.YtdkcdgjpcojdfaaGreatDoor

set_option linter.unusedVariables false
namespace Go.Proofs.YtdkcdgjpcojdfaaGreatDoor
open Go.RowKit
open PCheck (Xp Bd)
open PTree (Tr Rl Ex Wf X0)
open POrd (Bset Vset)
open PShow (Got got)

theorem mem_sum {α : Type} {f : α → Nat} : ∀ {l : List α} {x : α}, x ∈ l → f x ≤ (l.map f).sum
  | [], x, h => by cases h
  | y :: l, x, h => by
    simp only [List.map_cons, List.sum_cons]
    rcases List.mem_cons.1 h with rfl | h
    · omega
    · have := mem_sum (f := f) h; omega
def Tab2 (w : World) : Prop := Tab w ∧ Tab64 w
theorem Tab2.on {w w' : World} (h : Tab2 w) (hb : Below w.heap.size w w') : Tab2 w' := ⟨h.1.on hb, h.2.on hb⟩
structure Fit (s : List UInt8) (rs : List Rl) : Prop where
  parse : ∃ t, PTree.parse s = some (.ok t rs)
  len : s.length ≤ 10000
  size : PTree.sizeOf rs ≤ 500
  rules : rs.length ≤ 60
  text : (PTree.textB rs).length ≤ 4000
theorem Fit.got {s : List UInt8} {rs : List Rl} (h : Fit s rs) : Got s rs := by obtain ⟨t, ht⟩ := h.parse; exact PShow.got ht
theorem Fit.wf {s : List UInt8} {rs : List Rl} (h : Fit s rs) : ∀ r ∈ rs, Wf X0 r.tree := fun r hr => (h.got.wf r hr).2.2.2.1
theorem fit_500 {s : List UInt8} {t : List PLex.Tok} {rs : List Rl} (h : PTree.parse s = some (.ok t rs)) (hs : s.length ≤ 500) : Fit s rs := by
  have g := PShow.got h
  obtain ⟨p1, p2, -, -⟩ := read_prem h hs
  exact ⟨⟨t, h⟩, by omega, p1, g.few, by have := g.len; omega⟩
theorem Fit.names {s : List UInt8} {rs : List Rl} (h : Fit s rs) : (∀ x ∈ nmR (rwX rs), x.length ≤ maxLen) ∧ ∀ x ∈ xpX rs, x.name.length ≤ maxLen := by
  have g := h.got
  have ho := g.own
  have hl := h.len
  unfold maxLen
  refine ⟨fun x hx => ?_, fun x hx => ?_⟩
  · unfold nmR at hx
    obtain ⟨r, hr, rfl⟩ := List.mem_map.1 hx
    unfold rwX at hr
    obtain ⟨q, hq, rfl⟩ := List.mem_map.1 hr
    have : ∀ (rs : List Rl) (o : Nat), ∀ q ∈ PTree.rowsOf o rs, ∃ r ∈ rs, q.name = r.name := by
      intro rs
      induction rs with
      | nil => intro o q hq; cases hq
      | cons r rs ih =>
        intro o q hq
        rcases List.mem_cons.1 hq with rfl | hq
        · exact ⟨r, List.mem_cons_self .., rfl⟩
        · obtain ⟨r', h1, h2⟩ := ih _ q hq
          exact ⟨r', List.mem_cons_of_mem _ h1, h2⟩
    obtain ⟨r, hr, e⟩ := this rs 0 q hq
    have h2 := mem_sum (f := fun r : Rl => r.kind.length + r.name.length + 6) hr
    show q.name.length ≤ _
    rw [e]
    omega
  · obtain ⟨y, hy, rfl⟩ := List.mem_map.1 hx
    have h1 := (g.vals y hy).2
    have h2 := mem_sum (f := fun x : Ex => PShow.own (PShow.exX x)) hy
    show y.name.length ≤ _
    omega
theorem ptext2 {s : List UInt8} {rs : List Rl} (h : Fit s rs) {w : World} {n c rn rc : Nat} {A RA : Option Addr} (hR : SlX rlR w RA rn (rwX rs)) (hE : SlX xpR w A n (xpX rs)) (ht : Tab w) :
    Calls Tryz.prog 30 #[.agg #[.slice RA rn rc, .slice A n c]] w (TextAns (some (PTree.textB rs)) w) := by
  have g := h.got
  obtain ⟨t, hp⟩ := h.parse
  obtain ⟨h1, h2, _⟩ := read_in g
  have ho := of_decide_eq_true (show decide _ = true from h1)
  have hlx := xpX_len rs
  have hz := h.size
  have hc : ∀ k, k < PTree.sizeOf rs → PShow.cnt (xpX rs) k < 10000 := fun k hk => by
    have := PShow.ord_cnt ho (k := k) (by omega)
    omega
  have e1 : n = PTree.sizeOf rs := by rw [← xpX_len rs]; exact hE.1.symm
  have e2 : rn = rs.length := by rw [← rwX_len rs]; exact hR.1.symm
  have hl := h.rules
  have k := ktext_any (rc := rc) (c := c) hR hE ht (by omega) (by omega) (read_vals g) (fun _ => ⟨fun r hr => by
    have hr2 := (PShow.ord_all ho).2.2 r.2.2 (List.mem_map.2 ⟨r, hr, rfl⟩)
    exact hc _ (by omega), by rw [h2]; exact h.text⟩)
  rw [read_text hp] at k
  exact k
set_option maxHeartbeats 6400000 in
set_option maxRecDepth 100000 in
theorem ksort_any {s : List UInt8} {rs : List Rl} (h : Fit s rs) {w : World} {n c rn rc : Nat} {A RA : Option Addr} (hR : SlX rlR w RA rn (rwX rs)) (hE : SlX xpR w A n (xpX rs)) (hc : n ≤ c) (ht : Tab2 w) :
    Calls Tryz.prog 11 #[.agg #[.slice RA rn rc, .slice A n c]] w (OrdAns (POrd.ans (nmR (rwX rs)) (POrd.hangs rs)) w) := by
  obtain ⟨Q, hQ⟩ : ∃ Q, OrdAns (POrd.ans (nmR (rwX rs)) (POrd.hangs rs)) w = Q := ⟨_, rfl⟩
  rw [hQ]
  have e1 : n = PTree.sizeOf rs := by rw [← xpX_len rs]; exact hE.1.symm
  have e2 : rn = rs.length := by rw [← rwX_len rs]; exact hR.1.symm
  have hnl : (nmR (rwX rs)).length = rn := by rw [nmR_len]; exact hR.1
  have hr60 : rn ≤ 60 := by have := h.rules; omega
  have hn5 : n ≤ 500 := by have := h.size; omega
  obtain ⟨w1, hw1, XB, b1⟩ : ∃ w1, w.alloc (.cells #[.slice RA rn rc, .slice A n c] 32) = w1 ∧ Box w1 w.heap.size [.slice RA rn rc, .slice A n c] ∧ Below w.heap.size w w1 := ⟨_, rfl, Box.new _ _ [.slice RA rn rc, .slice A n c], (Below.refl _ _).alloc (Nat.le_refl _) _⟩
  have CT := Lib.hid (ptext2 (rc := rc) (c := c) h (hR.on b1) (hE.on b1) (ht.on b1).1)
  have HXB := Lib.hid XB; have HR := Lib.hid (hR.on b1); have HE := Lib.hid (hE.on b1); have HT := Lib.hid (ht.on b1); have B1 := Lib.hid b1; have HW1 := Lib.hid hw1
  have HF := Lib.hid h
  have CN := Lib.hid (fun (wz : World) (hz : SlX rlR wz RA rn (rwX rs)) => kbyName_any (rc := rc) hz (by omega) h.names.1)
  obtain ⟨x0, x1⟩ := px2 XB
  have hsx := XB.1
  cases htw : POrd.twice (nmR (rwX rs)) with
  | some i =>
    have FIN : Hid (∀ w' : World, Below w.heap.size w w' → Q (.returned (.tuple #[.slice none 0 0, .int .i64 (i : Nat), .int .i64 6])) w') := Lib.hid (fun w' a => by
      rw [← hQ]
      rw [POrd.ans_some htw]
      exact ⟨none, 0, rfl, slr_nil _ _ _, ⟨fun _ => rfl, Nat.le_refl _⟩, a⟩)
    have HTW := Lib.hid htw
    clear hQ hR hE ht h XB b1 hw1 htw e1 e2 hnl
    go_enter Tryz.func11, Tryz.ntmps11
    go_upto_region 1 with fail
    rw [HW1.out]
    go_wp2_with (go_at_call 30; refine CT.out.mono ?_)
    intro e2 w2 h2
    obtain ⟨rfl, b2⟩ := h2
    have B2 := Lib.hid (below_step B1.out b2)
    have CN2 := Lib.hid (CN.out w2 (HR.out.on b2))
    have hxb := HXB.out.on b2
    clear x0 x1 hsx CT b2 CN HW1
    obtain ⟨x0, x1⟩ := px2 hxb
    have hsx := hxb.1
    clear hxb
    go_wp2_with (go_at_call 31; refine CN2.out.mono ?_)
    intro e3 w3 h3
    obtain ⟨b3, h3⟩ := h3
    rw [HTW.out] at h3
    subst h3
    have B3 := Lib.hid (below_step B2.out b3)
    clear b3 CN2
    go_wp2_with fail
    exact FIN.out _ B3.out
  | none =>
    have hans : POrd.ans (nmR (rwX rs)) (POrd.hangs rs) = POrd.sortR (POrd.sort rn (POrd.hangs rs)) := by rw [POrd.ans_none htw, hnl]
    obtain ⟨F, hF⟩ : ∃ F, POrd.sortR (POrd.sort rn (POrd.hangs rs)) = F := ⟨_, rfl⟩
    have FIN : Hid (∀ (X : Option Addr) (cx : Nat) (w' : World), SlX intR w' X F.1.length (plI F.1) → ((X = none → cx = 0) ∧ F.1.length ≤ cx) → Below w.heap.size w w' → Q (.returned (.tuple #[.slice X F.1.length cx, .int .i64 (F.2.1 : Nat), .int .i64 (F.2.2 : Nat)])) w') := Lib.hid (fun X cx w' hl hx a => by
      rw [← hQ, hans, hF]
      exact ⟨X, cx, rfl, hl, hx, a⟩)
    have HFF := Lib.hid hF
    have HD : Hid (∀ j, j < rn → POrd.dup (nmR (rwX rs)) j = false) := Lib.hid (by
      have := POrd.least_no (show POrd.least _ _ = none from htw)
      rw [hnl] at this; exact this)
    have HTW := Lib.hid htw; have HNL := Lib.hid hnl
    clear hQ hR hE ht h XB b1 hw1 htw e1 e2 hnl hans hF
    go_enter Tryz.func11, Tryz.ntmps11
    go_upto_region 1 with fail
    rw [HW1.out]
    go_wp2_with (go_at_call 30; refine CT.out.mono ?_)
    intro e2 w2 h2
    obtain ⟨rfl, b2⟩ := h2
    have B2 := Lib.hid (below_step B1.out b2)
    have CN2 := Lib.hid (CN.out w2 (HR.out.on b2))
    have hxb := HXB.out.on b2
    have HXB2 := Lib.hid hxb; have HR2 := Lib.hid (HR.out.on b2); have HE2 := Lib.hid (HE.out.on b2); have HT2 := Lib.hid (HT.out.on b2)
    clear x0 x1 hsx CT b2 CN HW1 HXB HR HE HT B1
    obtain ⟨x0, x1⟩ := px2 hxb
    have hsx := hxb.1
    clear hxb
    go_wp2_with (go_at_call 31; refine CN2.out.mono ?_)
    intro e3 w3 h3
    obtain ⟨b3, h3⟩ := h3
    rw [HTW.out] at h3
    obtain ⟨mb, mn, rfl, hm⟩ := h3
    rw [HNL.out] at hm
    have B3 := Lib.hid (below_step B2.out b3)
    have hxb := HXB2.out.on b3
    have CO := Lib.hid (khanging_any (rc := rc) (c := c) (HR2.out.on b3) (HE2.out.on b3) HF.out.wf (by omega) hc hr60 hm HD.out HF.out.names.2)
    have HT3 := Lib.hid (HT2.out.on b3)
    clear x0 x1 hsx b3 CN2 HXB2 HR2 HE2 HT2 B2 hm
    obtain ⟨x0, x1⟩ := px2 hxb
    have hsx := hxb.1
    clear hxb
    go_wp2_with (go_at_call 33; refine CO.out.mono ?_)
    intro e4 w4 h4
    obtain ⟨VA, vc, V, rfl, hV, hVs, b4⟩ := h4
    have B4 := Lib.hid (below_step B3.out b4)
    have ci := kinOrd_any (c := vc) hV hVs hr60 (HT3.out.on b4).2
    rw [HFF.out] at ci
    have CI := Lib.hid ci
    clear hV hVs b4 ci CO HT3 B3
    go_wp2_with (go_at_call 32; refine CI.out.mono ?_)
    intro e5 w5 h5
    obtain ⟨X, cx, rfl, hl, hx, b5⟩ := h5
    have B5 := Lib.hid (below_step B4.out b5)
    have HL := Lib.hid hl; have HX := Lib.hid hx
    clear hl hx b5 CI
    go_wp2_with fail
    exact FIN.out X cx _ HL.out HX.out B5.out
def NilAns (w : World) (e : Ending) (w' : World) : Prop := e = .returned (.tuple #[.slice none 0 0, .int .i64 0, .int .i64 1]) ∧ Below w.heap.size w w'
set_option maxHeartbeats 1600000 in
theorem ksort_bad {w : World} {n c rn rc : Nat} {A RA : Option Addr} (hT : ∀ wz, Below w.heap.size w wz → Calls Tryz.prog 30 #[.agg #[.slice RA rn rc, .slice A n c]] wz (TextAns none wz)) :
    Calls Tryz.prog 11 #[.agg #[.slice RA rn rc, .slice A n c]] w (NilAns w) := by
  obtain ⟨Q, hQ⟩ : ∃ Q, NilAns w = Q := ⟨_, rfl⟩
  rw [hQ]
  have FIN : Hid (∀ w' : World, Below w.heap.size w w' → Q (.returned (.tuple #[.slice none 0 0, .int .i64 0, .int .i64 1])) w') := Lib.hid (fun w' a => by rw [← hQ]; exact ⟨rfl, a⟩)
  obtain ⟨w1, hw1, XB, b1⟩ : ∃ w1, w.alloc (.cells #[.slice RA rn rc, .slice A n c] 32) = w1 ∧ Box w1 w.heap.size [.slice RA rn rc, .slice A n c] ∧ Below w.heap.size w w1 := ⟨_, rfl, Box.new _ _ [.slice RA rn rc, .slice A n c], (Below.refl _ _).alloc (Nat.le_refl _) _⟩
  have CT := Lib.hid (hT w1 b1)
  have B1 := Lib.hid b1; have HW1 := Lib.hid hw1
  obtain ⟨x0, x1⟩ := px2 XB
  have hsx := XB.1
  clear hQ hT XB b1 hw1
  go_enter Tryz.func11, Tryz.ntmps11
  go_upto_region 1 with fail
  rw [HW1.out]
  go_wp2_with (go_at_call 30; refine CT.out.mono ?_)
  intro e2 w2 h2
  obtain ⟨rfl, b2⟩ := h2
  have B2 := Lib.hid (below_step B1.out b2)
  clear b2 CT
  go_wp2_with fail
  exact FIN.out _ B2.out
end Go.Proofs.YtdkcdgjpcojdfaaGreatDoor
