/-
  What the landed show answers: the lines of a program whose expressions are in order.
-/
import Derived.Test.YtdkcdgjpcojdfaaGreatDoorSB
import Derived.Test.YtdkcdgjpcojdfaaGreatDoorSM

set_option linter.unusedVariables false
namespace Go.Proofs.YtdkcdgjpcojdfaaGreatDoor
open Go.RowKit
open PCheck (Xp)
open PShow (Pc)

abbrev Rw := List UInt8 × List UInt8 × Int
def rlC (x : Rw) : List Value := [.string ⟨x.1.toArray⟩, .string ⟨x.2.1.toArray⟩, .int .i64 x.2.2]
def rlR : Rec Rw := ⟨rlC, 3, by decide, fun _ => rfl, fun x u hu => by simp [rlC] at hu; rcases hu with rfl | rfl | rfl <;> rfl⟩
def lineTx (E : List Xp) (r : Rw) : List UInt8 := r.1 ++ [32] ++ r.2.1 ++ [32, 61, 32] ++ PShow.tx E r.2.2.toNat ++ [59, 10]
theorem linesTx_take (E : List Xp) : ∀ (l : List Rw) (k : Nat) (r : Rw), l[k]? = some r → PShow.linesTx E (l.take (k + 1)) = PShow.linesTx E (l.take k) ++ lineTx E r
  | [], _, _, h => by cases h
  | a :: l, 0, r, h => by cases h; simp [PShow.linesTx, lineTx]
  | a :: l, k + 1, r, h => by
    have ih := linesTx_take E l k r (by simpa using h)
    rw [List.take_succ_cons, List.take_succ_cons]
    simp only [PShow.linesTx]
    rw [ih]
    simp only [List.append_assoc]
theorem linesTx_pre (E : List Xp) : ∀ (l : List Rw) (k : Nat), (PShow.linesTx E (l.take k)).length ≤ (PShow.linesTx E l).length
  | [], k => by simp
  | a :: l, 0 => by simp [PShow.linesTx]
  | a :: l, k + 1 => by
    have ih := linesTx_pre E l k
    rw [List.take_succ_cons]
    simp only [PShow.linesTx, List.length_append]
    omega
theorem cat_line (a b : List UInt8) : ((⟨a.toArray⟩ : ByteArray) ++ ⟨#[32]⟩ ++ ⟨b.toArray⟩ ++ ⟨#[32, 61, 32]⟩) = ⟨(a ++ [32] ++ b ++ [32, 61, 32]).toArray⟩ := by
  have h1 : ((⟨a.toArray⟩ : ByteArray) ++ ⟨#[32]⟩) = ⟨(a ++ [32]).toArray⟩ := ByteArray.mk_append_mk a [32]
  have h2 : ((⟨(a ++ [32]).toArray⟩ : ByteArray) ++ ⟨b.toArray⟩) = ⟨(a ++ [32] ++ b).toArray⟩ := ByteArray.mk_append_mk _ b
  have h3 : ((⟨(a ++ [32] ++ b).toArray⟩ : ByteArray) ++ ⟨#[32, 61, 32]⟩) = ⟨(a ++ [32] ++ b ++ [32, 61, 32]).toArray⟩ := ByteArray.mk_append_mk _ [32, 61, 32]
  rw [h1, h2, h3]
theorem bld_new (w : World) : Bld w.heap.size w.heap.size [] (w.alloc (.cells #[.pointer none, .slice none 0 0] 150)) :=
  .inl ⟨Nat.le_refl _, .slice none 0 0, heap_alloc_new w _, World.ownsRowF_nil _ _ _ _, by intro c; cases c⟩

set_option maxHeartbeats 6400000 in
set_option maxRecDepth 100000 in
theorem klines_any {w : World} {n c rn rc : Nat} {A RA : Option Addr} {E : List Xp} {RL : List Rw} (hR : SlX rlR w RA rn RL) (hE : SlX xpR w A n E) (ht : Tab w) (hA : PShow.Ahead E)
    (hv : ∀ x ∈ E, -9223372036854775808 ≤ x.value ∧ x.value ≤ 9223372036854775807) (hr : ∀ r ∈ RL, 0 ≤ r.2.2 ∧ r.2.2 < (n : Int) ∧ PShow.cnt E r.2.2.toNat < 10000) (hlen : (PShow.linesTx E RL).length ≤ 1000000) (hrn : rn ≤ 1000000) :
    Calls Tryz.prog 57 #[.agg #[.slice RA rn rc, .slice A n c]] w (StrAns (PShow.linesTx E RL) w) := by
  obtain ⟨Q, hQ⟩ : ∃ Q, StrAns (PShow.linesTx E RL) w = Q := ⟨_, rfl⟩
  rw [hQ]
  have FIN : Hid (∀ w', Below w.heap.size w w' → Q (.returned (.string ⟨(PShow.linesTx E RL).toArray⟩)) w') := Lib.hid (fun w' a => by rw [← hQ]; exact ⟨rfl, a⟩)
  have hRn : RL.length = rn := hR.1
  obtain ⟨w1, hw1, XB, b1⟩ : ∃ w1, w.alloc (.cells #[.slice RA rn rc, .slice A n c] 32) = w1 ∧ Box w1 w.heap.size [.slice RA rn rc, .slice A n c] ∧ Below w.heap.size w w1 := ⟨_, rfl, Box.new _ _ [.slice RA rn rc, .slice A n c], (Below.refl _ _).alloc (Nat.le_refl _) _⟩
  obtain ⟨w2, hw2⟩ : ∃ w2, w1.alloc (.cells #[.pointer none, .slice none 0 0] 150) = w2 := ⟨_, rfl⟩
  have bl2 : Bld w1.heap.size w1.heap.size [] w2 := by rw [← hw2]; exact bld_new w1
  have b2 : Below w1.heap.size w1 w2 := by rw [← hw2]; exact (Below.refl _ _).alloc (Nat.le_refl _) _
  have hsz1 : w1.heap.size = w.heap.size + 1 := by rw [← hw1]; simp
  obtain ⟨B, hB⟩ : ∃ B, w1.heap.size = B := ⟨_, rfl⟩
  rw [hB] at bl2 b2
  have hs2 : w2.heap.size = B + 1 := by rw [← hw2, ← hB]; simp
  have HR := Lib.hid (hR.on b1); have HE := Lib.hid (hE.on b1); have HT := Lib.hid (ht.on b1); have HA := Lib.hid hA; have HV := Lib.hid hv; have HRR := Lib.hid hr; have HLEN := Lib.hid hlen; have HRN := Lib.hid hRn
  have HXB := Lib.hid XB; have BL2 := Lib.hid bl2; have B2 := Lib.hid b2; have B1 := Lib.hid b1; have HB := Lib.hid hB; have HS2 := Lib.hid hs2; have HW1 := Lib.hid hw1; have HW2 := Lib.hid hw2; have HSZ1 := Lib.hid hsz1
  have X2 := XB.on (by rw [hB]; exact b2)
  obtain ⟨x0, x1⟩ := px2 X2
  have hsx := X2.1
  clear hR hE ht hA hv hr hlen hQ hRn XB bl2 b2 b1 hB hs2 hw1 hw2 hsz1 X2
  go_enter Tryz.func57, Tryz.ntmps57
  go_upto_region 2 with fail
  rw [HW1.out, HW2.out]
  rw [show w.heap.size + 1 = B by rw [← HSZ1.out, HB.out]]
  go_wp2_with fail
  go_loopw [9] (fun i wx => ∃ k : Nat, i = .int .i64 k ∧ k ≤ rn ∧ Hid (Bld B B (PShow.linesTx E (RL.take k)) wx) ∧ Hid (Below B w1 wx) ∧ Hid (B < wx.heap.size)) (fun i _ => rn - (intOf i).toNat)
  case atStart => exact ⟨0, rfl, Nat.zero_le _, Lib.hid (by rw [List.take_zero]; exact BL2.out), B2, Lib.hid (by rw [HS2.out]; omega)⟩
  case round =>
    obtain ⟨k, rfl, hk, I1, I2, I3⟩ := hrel
    have I2' : Below w1.heap.size w1 wr := by rw [HB.out]; exact I2.out
    clear x0 x1 hsx
    by_cases hkr : k < rn
    · have hkR : k < RL.length := by rw [HRN.out]; exact hkr
      obtain ⟨⟨kd, nm, rt⟩, hrx⟩ : ∃ r, RL[k] = r := ⟨_, rfl⟩
      have hR1 : RL[k]? = some (kd, nm, rt) := by rw [List.getElem?_eq_getElem hkR, hrx]
      have hrr := HRR.out (kd, nm, rt) (List.mem_iff_getElem?.2 ⟨k, hR1⟩)
      simp only at hrr
      obtain ⟨rn', rfl⟩ : ∃ q : Nat, rt = q := ⟨rt.toNat, by omega⟩
      rw [Int.toNat_natCast] at hrr
      have htk := linesTx_take E RL k _ hR1
      have hpre := linesTx_pre E RL (k + 1)
      have hll := HLEN.out
      obtain ⟨done, hdone⟩ : ∃ d, PShow.linesTx E (RL.take k) = d := ⟨_, rfl⟩
      rw [hdone] at I1 htk
      have hlen2 : done.length + (lineTx E (kd, nm, (rn' : Int))).length ≤ 1000000 := by rw [htk, List.length_append] at hpre; omega
      unfold lineTx at hlen2 htk
      simp only [List.length_append, Int.toNat_natCast, List.length_cons, List.length_nil] at hlen2 htk
      obtain ⟨rb, ro, rfl, cR⟩ := (HR.out.on I2').at hkr
      have cR1 := cR k hkR
      rw [hrx] at cR1
      have c0 : wr.cell? ⟨rb, ro + k * 3, none⟩ = some (.string ⟨kd.toArray⟩) := cR1 0 _ rfl
      have c1 : wr.cell? ⟨rb, ro + k * 3 + 1, none⟩ = some (.string ⟨nm.toArray⟩) := cR1 1 _ rfl
      have c2 : wr.cell? ⟨rb, ro + k * 3 + 2, none⟩ = some (.int .i64 (rn' : Int)) := cR1 2 _ rfl
      obtain ⟨w9, hw9, SB, b9⟩ : ∃ w9, wr.alloc (.cells #[.string { data := #[] }, .string { data := #[] }, .int .i64 0] 60) = w9 ∧ Box w9 wr.heap.size [.string { data := #[] }, .string { data := #[] }, .int .i64 0] ∧ Below wr.heap.size wr w9 := ⟨_, rfl, Box.new _ _ [.string { data := #[] }, .string { data := #[] }, .int .i64 0], (Below.refl _ _).alloc (Nat.le_refl _) _⟩
      obtain ⟨w10, hw10, X10, ON10⟩ := st3x SB (.string ⟨kd.toArray⟩) (.string ⟨nm.toArray⟩) (.int .i64 (rn' : Int))
      have NX : w10.ownsRow wr.heap.size 60 3 (.slice (some ⟨wr.heap.size, 0, none⟩) 1 1) 1 [.string ⟨kd.toArray⟩, .string ⟨nm.toArray⟩, .int .i64 (rn' : Int)] := by
        have h0 := own_built rlR wr 60 [([], [], (0 : Int))] (Nat.le_refl _) (show 1 ≤ maxLen by decide)
        have h1 := (h0.stored 0 (.string ⟨kd.toArray⟩)).1
        have h2 := (h1.stored 1 (.string ⟨nm.toArray⟩)).1
        have h3 := (h2.stored 2 (.int .i64 (rn' : Int))).1
        rw [← hw10, ← hw9]
        exact h3
      have b10 : Below wr.heap.size wr w10 := ON10.below (Nat.le_refl _) b9
      have hs10 : wr.heap.size < w10.heap.size := (NX.lt _ rfl).2
      have hBr : B ≤ wr.heap.size := by have := I3.out; omega
      have BL10 := bld_below I1.out b10
      have nb : (Value.slice (some ⟨wr.heap.size, 0, none⟩) 1 1).ownBlock ≠ some B := bld_apart BL10 NX (by decide)
      have BB := I2.out.trans (b10.mono hBr)
      have WC := bwrite_any B B done (kd ++ [32] ++ nm ++ [32, 61, 32]) w10 BL10 (by simp only [List.length_append, List.length_cons, List.length_nil]; omega) (by omega)
      have hcat := cat_line kd nm
      rw [← hcat] at WC
      obtain ⟨u0, u1, u2⟩ := bx3 X10
      have XB10 := HXB.out.on (show Below w1.heap.size w1 w10 by rw [HB.out]; exact BB)
      obtain ⟨x0, x1⟩ := px2 XB10
      obtain ⟨xr0, xr1⟩ := px2 (HXB.out.on I2')
      have hsx := XB10.1
      obtain ⟨s0, s1, s2⟩ := bx3 SB
      obtain ⟨g0, g1, g2⟩ := bx3f SB
      have hs9 := SB.1
      have gk : (k : Int) < (rn : Int) := by omega
      have hk1 : (ByteArray.mk kd.toArray).size = kd.length := by simp [ByteArray.size]
      have hk2 : (ByteArray.mk nm.toArray).size = nm.length := by simp [ByteArray.size]
      have HW10 := Lib.hid hw10; have HWC := Lib.hid WC; have HNX := Lib.hid NX; have HBB := Lib.hid BB; have HNB := Lib.hid nb; have HS10 := Lib.hid hs10; have HRT := Lib.hid hrr; have HTK := Lib.hid htk; have HL2 := Lib.hid hlen2
      have z1 : ¬ 9223372036854775807 < kd.length + 1 := by omega
      have z2 : ¬ 9223372036854775807 < kd.length + 1 + nm.length := by omega
      have z3 : ¬ 9223372036854775807 < kd.length + 1 + nm.length + 3 := by omega
      clear hw10 WC NX BB nb hs10 hrr htk hpre hll hlen2 hdone BL10 hcat cR cR1 hR1 hrx hkR X10 ON10 b9 b10 SB XB10 I2' hBr
      go_upto_region 5 with fail
      rw [HW10.out]
      clear HW10 hw9 s0 s1 s2 g0 g1 g2 hs9 xr0 xr1
      go_wp2_with (go_at_call 89; refine HWC.out.mono ?_)
      rintro e11 w11 ⟨rfl, bl11, be11, ok11⟩
      have NX11 := own_others HNX.out ok11 (by decide) HNB.out
      have v2 : w11.cell? ⟨wr.heap.size, 2, none⟩ = some (.int .i64 (rn' : Int)) := NX11.cellAt 2 (by decide)
      have hsX : wr.heap.size < w11.heap.size := (NX11.lt _ rfl).2
      have BE := HBB.out.trans be11
      have XB11 := HXB.out.on (show Below w1.heap.size w1 w11 by rw [HB.out]; exact BE)
      have hB11 : B < w11.heap.size := by have := I3.out; omega
      have WR := kwrite_any (c := c) bl11 (Nat.le_of_lt hB11) (fun w' hb => ⟨HE.out.on (show Below w1.heap.size w1 w' by rw [HB.out]; exact BE.trans hb), HT.out.on (show Below w1.heap.size w1 w' by rw [HB.out]; exact BE.trans hb)⟩) HA.out HV.out (root := rn') (by have := HRT.out.2.1; omega) HRT.out.2.2 (by simp only [List.length_append, List.length_cons, List.length_nil]; have := HL2.out; omega)
      have HWR := Lib.hid WR; have HBE := Lib.hid BE; have HB11 := Lib.hid hB11
      clear x0 x1 hsx u0 u1 u2 NX11 bl11 be11 ok11 HNX HWC HBB HNB HS10 WR BE z1 z2 z3 hk1 hk2
      obtain ⟨x0, x1⟩ := px2 XB11
      have hsx := XB11.1
      clear XB11
      go_wp2_with (go_at_call 90; refine HWR.out.mono ?_)
      intro e12 w12 h12
      obtain ⟨rfl, bl12, be12⟩ := h12
      have WC2 := Lib.hid (bwrite_any B B _ [59, 10] w12 bl12 (by simp only [List.length_append, List.length_cons, List.length_nil]; have := HL2.out; omega) (by have := HB11.out; have := be12.size; omega))
      have HBE2 := Lib.hid (HBE.out.trans be12)
      have HB12 := Lib.hid (show B < w12.heap.size by have := HB11.out; have := be12.size; omega)
      clear bl12 be12 x0 x1 hsx v2 hsX HWR
      go_wp2_with (go_at_call 89; refine WC2.out.mono ?_)
      rintro e13 w13 ⟨rfl, bl13, be13, ok13⟩
      have HBL := Lib.hid bl13; have HBE3 := Lib.hid (HBE2.out.trans be13)
      have HB13 := Lib.hid (show B < w13.heap.size by have := HB12.out; have := be13.size; omega)
      clear bl13 be13 ok13 WC2
      go_wp2_with fail
      refine ⟨⟨k + 1, by congr 1, by omega, Lib.hid ?_, HBE3, HB13⟩, by simp [intOf]; omega⟩
      rw [HTK.out]
      simpa only [List.append_assoc] using HBL.out
    · have hek : k = rn := by omega
      have hall : RL.take k = RL := by rw [List.take_of_length_le]; rw [HRN.out]; omega
      rw [hall] at I1
      have ST := Lib.hid (Tryz.Builder_String_any_k B B (PShow.linesTx E RL) wr I1.out (by have := I3.out; omega))
      have gk : ¬ (k : Int) < (rn : Int) := by omega
      clear hall hek I2'
      go_wp2_with (go_at_call 91; refine ST.out.mono ?_)
      intro e14 w14 he14 bl14 be14 ok14
      subst he14
      have HB14 := Lib.hid (B1.out.trans ((I2.out.trans be14).mono (by have := HSZ1.out; have := HB.out; omega)))
      clear be14 ST
      go_wp2_with fail
      exact FIN.out _ HB14.out
end Go.Proofs.YtdkcdgjpcojdfaaGreatDoor
