/-
  What the reference of layer 8 answers: an expression, by its parts.
  What the reference of layer 8 answers: a chain of a level.
  What the reference of layer 8 answers: a factor.
-/
import Derived.Test.YtdkcdgjpcojdfaaGreatDoorR8A

namespace Go.Proofs.YtdkcdgjpcojdfaaGreatDoor
open Go.RowKit
open PTree (R Ex Tr Md)

set_option maxHeartbeats 6400000 in
set_option maxRecDepth 100000 in
theorem whole_if {c : Cfg} {N : Nat} (hl : c.ls.length ≤ 1000) (IW : WholeC c N) {d j : Nat} {xs : List Ex} {C : Option Addr} {k : Nat} {w : World} (hN : 10 * (c.ls.length - j) + 9 < N + 1) (hj : j ≤ c.ls.length) (hd : d ≤ 20) (hA : SlT w c.A c.ls.length c.ls) (hX : SlE c.N w C xs.length xs) (hC : C = none → k = 0)
    (hB : xs.length + (c.ls.length - j) + 5 * (22 - d) + 4 ≤ 5000) (ht : PTree.textOf (c.ls.drop j) = [105, 102]) :
    Calls Tryz.prog 26 #[sv c C xs.length k j 0 c.pl, .int .i64 d] w (Ans c xs (xs.length + (c.ls.length - j) + 5 * (22 - d) + 4) (PTree.ex c.en .whole d (c.ls.drop j)) w) := by
  have hlt := drop_pos ht (List.cons_ne_nil _ _)
  have H1 := Lib.hid (fun (w : World) (h : SlT w c.A c.ls.length c.ls) => r8text_any (cap := c.cap) (B := c.B) (C := C) (rn := c.rn) (rc := c.rc) (xn := xs.length) (xc := k) (en := c.en) (er := 0) (pl := c.pl) h hj)
  rw [ht] at H1
  have HT := Lib.hid ht
  have IW := Lib.hid IW
  have HA := Lib.hid hA
  have HX := Lib.hid hX
  have HC := Lib.hid hC
  have HN := Lib.hid hN
  have HB := Lib.hid hB
  have g20 : ¬ (20 : Int) < (d : Int) := by omega
  have hl2 : (j : Int) < 1000 := by omega
  obtain ⟨D, hD⟩ : ∃ D, D = d + 1 := ⟨_, rfl⟩
  have gD : (d : Int) + 1 = (D : Int) := by omega
  obtain ⟨J, hJ⟩ : ∃ J, J = j + 1 := ⟨_, rfl⟩
  have gJ : (j : Int) + 1 = (J : Int) := by omega
  have DD := Lib.hid hD
  have JJ := Lib.hid hJ
  have HLT := Lib.hid hlt
  have HJ := Lib.hid hj
  have HLN := Lib.hid hl
  have HD := Lib.hid hd
  clear hA hX hC hN ht hD hJ hlt hj hl hd hB
  obtain ⟨Q, hQ⟩ : ∃ Q, Ans c xs (xs.length + (c.ls.length - j) + 5 * (22 - d) + 4) (PTree.ex c.en .whole d (c.ls.drop j)) w = Q := ⟨_, rfl⟩
  rw [hQ]
  have HQ := Lib.hid hQ
  clear hQ
  unfold sv stV
  unfold stV at H1
  go_enter Tryz.func26, Tryz.ntmps26
  go_upto_region 5 with fail
  obtain ⟨w1, hw1, XB, RB, b1, hs1⟩ := enter2 w 68 68 (sc c C xs.length k j 0 c.pl) zeroC
  unfold sc stC at hw1; unfold zeroC at hw1
  rw [hw1]
  obtain ⟨L, hL⟩ : ∃ L, w.heap.size = L := ⟨_, rfl⟩
  have HX1 := Lib.hid (HX.out.on b1)
  have HA1 := Lib.hid (HA.out.on b1)
  rw [hL] at XB RB hs1 b1 ⊢
  have XB1 := Lib.hid XB; have RB1 := Lib.hid RB; have B1 := Lib.hid b1; have HLw := Lib.hid hL
  clear hw1 hL b1 XB RB HX HA
  obtain ⟨c0, c1, c2, c3, c4, c5, c6⟩ := box7 XB1.out
  go_wp2_with fail
  refine (H1.out _ HA1.out).mono ?_
  rintro _ w2 ⟨rfl, b⟩
  have XB2 := Lib.hid (XB1.out.on b); have RB2 := Lib.hid (RB1.out.on b); have HA2 := Lib.hid (HA1.out.on b); have HX2 := Lib.hid (HX1.out.on b)
  have B2 := Lib.hid (B1.out.trans (b.mono (by omega)))
  clear b c0 c1 c2 c3 c4 c5 c6 XB1 RB1 HA1 HX1 B1 H1 hs1
  obtain ⟨c0, c1, c2, c3, c4, c5, c6⟩ := box7 XB2.out
  obtain ⟨f0, f1, f2, f3, f4, f5, f6⟩ := box7f XB2.out
  go_upto_region 8 with fail
  obtain ⟨w3, hw3⟩ : ∃ w3, w2.setCell ⟨L, 2, none⟩ (.int .i64 J) = w3 := ⟨_, rfl⟩
  have ON : Only L w2 w3 := by rw [← hw3]; exact (Only.refl L w2).set 2 _
  have XB3 : Hid (Box w3 L (sc c C xs.length k J 0 c.pl)) := Lib.hid (by rw [← hw3]; exact XB2.out.set 2 (by simp [sc, stC]) _)
  have RB3 := Lib.hid (RB2.out.only ON (by omega))
  have RS0 := Lib.hid ((rs_start (c := c) (j := J) HC.out HX2.out (by have := JJ.out; have := HLT.out; omega) (Nat.le_refl _)).only XB2.out (sc_str _ _ _ _ _ _ _) ON)
  have HA3 := Lib.hid (HA2.out.only XB2.out (sc_str _ _ _ _ _ _ _) ON)
  have B3 := Lib.hid (ON.below (Nat.le_refl _) B2.out)
  rw [hw3]
  clear hw3 ON XB2 RB2 HA2 HX2 B2 c0 c1 c2 c3 c4 c5 c6 f0 f1 f2 f3 f4 f5 f6
  obtain ⟨R0, hR0⟩ : ∃ r : Option (R Unit), r = some (.ok (c.ls.drop J) ()) := ⟨_, rfl⟩
  have FX0 : Hid (Fx R0 (fun _ => xs) (c.ls.length - j) (xs.length + (c.ls.length - j))) := Lib.hid (by
    intro ts b e
    rw [hR0] at e; cases e
    have := JJ.out; have := HLT.out
    rw [List.length_drop]
    show _ ∧ xs.length + _ + 1 ≤ _
    omega)
  have HR0 := Lib.hid hR0
  rw [← hR0] at RS0
  obtain ⟨X0, hX0⟩ : ∃ X : Unit → List Ex, X = fun _ => xs := ⟨_, rfl⟩
  rw [← hX0] at RS0 FX0
  have HX0 := Lib.hid hX0
  clear hR0 hX0
  have RS0' := Lib.hid (RS0.out.less (bd' := xs.length + (c.ls.length - j) + 5 * (22 - d) + 3) (by omega))
  clear RS0
  obtain ⟨c0, c1, c2, c3, c4, c5, c6⟩ := box7 XB3.out
  go_wp2_with fail
  refine (bind_whole (D := D) (M := c.ls.length - j) (K := xs.length + (c.ls.length - j)) IW.out (by have := DD.out; have := HD.out; omega) RS0'.out FX0.out HA3.out (by have := HN.out; omega) (by have := DD.out; have := HD.out; omega) (by have := HB.out; omega)).mono ?_
  rintro _ w4 ⟨C1, n1, k1, i1, er1, p1, a1, rfl, hR, ha, b⟩
  unfold sv stV
  have AI1 := Lib.hid ha
  have xb := XB3.out.on b
  obtain ⟨w5, hw, xb2, ON⟩ := store7 xb (.slice c.A c.ls.length c.cap) (.int .i64 c.en) (.int .i64 i1) (.slice c.B c.rn c.rc) (.slice C1 n1 k1) (.int .i64 er1) (.int .i64 p1)
  have XB5 : Hid (Box w5 L (sc c C1 n1 k1 i1 er1 p1)) := Lib.hid xb2
  have RB5 := Lib.hid ((RB3.out.on b).only ON (by omega))
  have RS1 := Lib.hid (hR.only xb (sc_str _ _ _ _ _ _ _) ON)
  have FX1 := Lib.hid (FX0.out.part (en := c.en) (m := .whole) (D := D) rfl)
  have HA5 := Lib.hid ((HA3.out.on b).only xb (sc_str _ _ _ _ _ _ _) ON)
  have B5 := Lib.hid (ON.below (Nat.le_refl _) (B3.out.trans (b.mono (Nat.le_of_lt XB3.out.1))))
  have HW := Lib.hid hw
  (try clear c0 c1 c2 c3 c4 c5 c6)
  obtain ⟨c0, c1, c2, c3, c4, c5, c6⟩ := box7 xb
  obtain ⟨f0, f1, f2, f3, f4, f5, f6⟩ := box7f xb
  clear hR ha b xb hw xb2 ON XB3 RB3 HA3 B3 RS0'
  go_upto_region 9 with fail
  rw [HW.out]
  clear HW c0 c1 c2 c3 c4 c5 c6 f0 f1 f2 f3 f4 f5 f6 w4
  obtain ⟨c0, c1, c2, c3, c4, c5, c6⟩ := box7 XB5.out
  go_wp2_with fail
  refine (bind_must RS1.out HA5.out HLN.out { data := #[116, 104, 101, 110] } (by simp)).mono ?_
  rintro _ w6 ⟨C2, n2, k2, i2, er2, p2, rfl, hR, b⟩
  unfold sv stV
  have XB6 := Lib.hid (XB5.out.on b); have RB6 := Lib.hid (RB5.out.on b); have HA6 := Lib.hid (HA5.out.on b)
  have RS2 := Lib.hid hR
  have FX2 := Lib.hid (FX1.out.word (en := c.en) (s := ({ data := #[116, 104, 101, 110] } : ByteArray).data.toList) (by simp))
  have B6 := Lib.hid (B5.out.trans (b.mono (Nat.le_of_lt XB5.out.1)))
  clear hR b c0 c1 c2 c3 c4 c5 c6 XB5 RB5 HA5 B5 RS1
  go_wp2_with fail
  refine (bind_whole (D := D) (M := c.ls.length - j) (K := xs.length + (c.ls.length - j)) IW.out (by have := DD.out; have := HD.out; omega) RS2.out FX2.out HA6.out (by have := HN.out; omega) (by have := DD.out; have := HD.out; omega) (by have := HB.out; omega)).mono ?_
  rintro _ w7 ⟨C3, n3, k3, i3, er3, p3, a3, rfl, hR, ha, b⟩
  unfold sv stV
  have AI3 := Lib.hid ha
  have xb := XB6.out.on b
  obtain ⟨w8, hw, xb2, ON⟩ := store7 xb (.slice c.A c.ls.length c.cap) (.int .i64 c.en) (.int .i64 i3) (.slice c.B c.rn c.rc) (.slice C3 n3 k3) (.int .i64 er3) (.int .i64 p3)
  have XB8 : Hid (Box w8 L (sc c C3 n3 k3 i3 er3 p3)) := Lib.hid xb2
  have RB8 := Lib.hid ((RB6.out.on b).only ON (by omega))
  have RS3 := Lib.hid (hR.only xb (sc_str _ _ _ _ _ _ _) ON)
  have FX3 := Lib.hid (FX2.out.part (en := c.en) (m := .whole) (D := D) rfl)
  have HA8 := Lib.hid ((HA6.out.on b).only xb (sc_str _ _ _ _ _ _ _) ON)
  have B8 := Lib.hid (ON.below (Nat.le_refl _) (B6.out.trans (b.mono (Nat.le_of_lt XB6.out.1))))
  have HW := Lib.hid hw
  (try clear c0 c1 c2 c3 c4 c5 c6)
  obtain ⟨c0, c1, c2, c3, c4, c5, c6⟩ := box7 xb
  obtain ⟨f0, f1, f2, f3, f4, f5, f6⟩ := box7f xb
  clear hR ha b xb hw xb2 ON XB6 RB6 HA6 B6 RS2
  go_upto_region 10 with fail
  rw [HW.out]
  clear HW c0 c1 c2 c3 c4 c5 c6 f0 f1 f2 f3 f4 f5 f6 w7
  obtain ⟨c0, c1, c2, c3, c4, c5, c6⟩ := box7 XB8.out
  go_wp2_with fail
  refine (bind_must RS3.out HA8.out HLN.out { data := #[101, 108, 115, 101] } (by simp)).mono ?_
  rintro _ w9 ⟨C4, n4, k4, i4, er4, p4, rfl, hR, b⟩
  unfold sv stV
  have XB9 := Lib.hid (XB8.out.on b); have RB9 := Lib.hid (RB8.out.on b); have HA9 := Lib.hid (HA8.out.on b)
  have RS4 := Lib.hid hR
  have FX4 := Lib.hid (FX3.out.word (en := c.en) (s := ({ data := #[101, 108, 115, 101] } : ByteArray).data.toList) (by simp))
  have B9 := Lib.hid (B8.out.trans (b.mono (Nat.le_of_lt XB8.out.1)))
  clear hR b c0 c1 c2 c3 c4 c5 c6 XB8 RB8 HA8 B8 RS3
  go_wp2_with fail
  refine (bind_whole (D := D) (M := c.ls.length - j) (K := xs.length + (c.ls.length - j)) IW.out (by have := DD.out; have := HD.out; omega) RS4.out FX4.out HA9.out (by have := HN.out; omega) (by have := DD.out; have := HD.out; omega) (by have := HB.out; omega)).mono ?_
  rintro _ w10 ⟨C5, n5, k5, i5, er5, p5, a5, rfl, hR, ha, b⟩
  unfold sv stV
  have AI5 := Lib.hid ha
  have xb := XB9.out.on b
  obtain ⟨w11, hw, xb2, ON⟩ := store7 xb (.slice c.A c.ls.length c.cap) (.int .i64 c.en) (.int .i64 i5) (.slice c.B c.rn c.rc) (.slice C5 n5 k5) (.int .i64 er5) (.int .i64 p5)
  have XB11 : Hid (Box w11 L (sc c C5 n5 k5 i5 er5 p5)) := Lib.hid xb2
  have RB11 := Lib.hid ((RB9.out.on b).only ON (by omega))
  have RS5 := Lib.hid (hR.only xb (sc_str _ _ _ _ _ _ _) ON)
  have FX5 := Lib.hid (FX4.out.part (en := c.en) (m := .whole) (D := D) rfl)
  have HA11 := Lib.hid ((HA9.out.on b).only xb (sc_str _ _ _ _ _ _ _) ON)
  have B11 := Lib.hid (ON.below (Nat.le_refl _) (B9.out.trans (b.mono (Nat.le_of_lt XB9.out.1))))
  have HW := Lib.hid hw
  (try clear c0 c1 c2 c3 c4 c5 c6)
  obtain ⟨c0, c1, c2, c3, c4, c5, c6⟩ := box7 xb
  obtain ⟨f0, f1, f2, f3, f4, f5, f6⟩ := box7f xb
  clear hR ha b xb hw xb2 ON XB9 RB9 HA9 B9 RS4
  go_upto_region 11 with fail
  rw [HW.out]
  clear HW c0 c1 c2 c3 c4 c5 c6 f0 f1 f2 f3 f4 f5 f6 w10
  obtain ⟨c0, c1, c2, c3, c4, c5, c6⟩ := box7 XB11.out
  go_wp2_with fail
  refine (r8put RS5.out (by have := HB.out; omega) ⟨[105, 102], [], 0, a1, a3, a5⟩).mono ?_
  rintro _ w12 ⟨C6, n6, k6, rfl, rfl, hR, b⟩
  unfold sv stV
  have RB12 := Lib.hid (RB11.out.on b)
  have RS6 := Lib.hid hR
  have B12 := Lib.hid (B11.out.trans (b.mono (Nat.le_of_lt XB11.out.1)))
  clear hR b c0 c1 c2 c3 c4 c5 c6 RB11 XB11 HA11 B11 RS5
  obtain ⟨r0, r1, r2, r3, r4, r5, r6⟩ := box7 RB12.out
  obtain ⟨f0, f1, f2, f3, f4, f5, f6⟩ := box7f RB12.out
  obtain ⟨w13, hw, rb, ON⟩ := store7 RB12.out (.slice c.A c.ls.length c.cap) (.int .i64 c.en) (.int .i64 i5) (.slice c.B c.rn c.rc) (.slice C6 (n5 + 1) k6) (.int .i64 er5) (.int .i64 p5)
  obtain ⟨k0, k1', k2', k3', k4', k5', k6'⟩ := box7 rb
  rw [← hw] at k0 k1' k2' k3' k4' k5' k6'
  have HW := Lib.hid hw
  have RS7 := Lib.hid (RS6.out.only RB12.out zero_str ON)
  have B13 := Lib.hid (ON.below (Nat.le_succ L) B12.out)
  clear hw rb ON RS6 B12
  go_wp2_with fail
  (try simp only [Exit.inBlock, Exit.then])
  refine bodyPost_ret (by simp [results, Tryz.results26, go_sem, k0, k1', k2', k3', k4', k5', k6']; try rfl) rfl ?_
  rw [← HQ.out, HW.out]
  have hR0 := HR0.out
  have hX0 := HX0.out
  have hDD := DD.out
  have hE : PTree.ex c.en .whole d (c.ls.drop j) = R.next (Nx c.en .whole D (Mx c.en [101, 108, 115, 101] (Nx c.en .whole D (Mx c.en [116, 104, 101, 110] (Nx c.en .whole D R0))))) fun ts q => some (.ok ts (Tr.cond q.1.1.2 q.1.2 q.2)) := by
    rw [PTree.ex_eq]
    simp only [PTree.body]
    rw [if_neg (by have := HD.out; omega), if_pos HT.out, List.tail_drop, ← JJ.out, ← DD.out]
    simp only [Nx, Mx, hR0, next_assoc, next_some]
  have RS8 := RS7.out.done (X' := fun t => xs ++ t.flat xs.length) (g := fun q => Tr.cond q.1.1.2 q.1.2 q.2) hE (fun ts b hb => by
    obtain ⟨t5, q4, e4, e5⟩ := next_ok hb
    obtain ⟨t6, x3, e6, e7⟩ := next_ok e5
    cases e7
    obtain ⟨t7, q3, e8, e9⟩ := next_ok e4
    obtain ⟨t8, _, e10, e11⟩ := next_ok e9
    cases e11
    have i5 := AI5.out _ _ _ hb
    obtain ⟨t9, q2, e12, e13⟩ := next_ok e8
    obtain ⟨t10, x2, e14, e15⟩ := next_ok e13
    cases e15
    have i3 := AI3.out _ _ _ e8
    obtain ⟨t11, q1, e16, e17⟩ := next_ok e12
    obtain ⟨t12, _, e18, e19⟩ := next_ok e17
    cases e19
    obtain ⟨t13, q0, e20, e21⟩ := next_ok e16
    obtain ⟨t14, x1, e22, e23⟩ := next_ok e21
    cases e23
    have i1 := AI1.out _ _ _ e16
    simp only [XN, hX0, List.length_append, Tr.flat_len] at i1 i3 i5 ⊢
    subst i1 i3 i5
    simp only [Tr.flat, List.append_assoc])
  refine ⟨C6, n5 + 1, k6, i5, er5, p5, n5, rfl, RS8.less (by omega), fun ts t e => ?_, by rw [HLw.out]; exact B13.out⟩
  have := RS8.len e
  simp only [List.length_append, Tr.flat_len] at this
  have := t.size_pos
  omega
theorem ans_bad {c : Cfg} {xs : List Ex} {bd : Nat} {r : Option (R Tr)} {C : Option Addr} {k : Nat} {i : Int} {e q : Nat} {w w' : World} (hr : r = some (.bad e q)) (he : e = 2 ∨ e = 9) (hC : C = none → k = 0) (hX : SlE c.N w' C xs.length xs) (hb : xs.length ≤ bd) (hB : Below w.heap.size w w') :
    Ans c xs bd r w (.returned (.tuple #[sv c C xs.length k i e q, .int .i64 0])) w' :=
  ⟨C, _, k, i, e, q, 0, rfl, ⟨hC, xs, rfl, hX, hb, by rw [hr]; exact ⟨he, rfl, rfl⟩⟩, fun ts t h => (by rw [hr] at h; cases h), hB⟩
set_option maxHeartbeats 6400000 in
set_option maxRecDepth 100000 in
theorem whole_deep {c : Cfg} {d j : Nat} {xs : List Ex} {C : Option Addr} {k : Nat} {w : World} (hj : j ≤ c.ls.length) (hd : 20 < d) (hA : SlT w c.A c.ls.length c.ls) (hX : SlE c.N w C xs.length xs) (hC : C = none → k = 0) :
    Calls Tryz.prog 26 #[sv c C xs.length k j 0 c.pl, .int .i64 d] w (Ans c xs (xs.length + (c.ls.length - j) + 5 * (22 - d) + 4) (PTree.ex c.en .whole d (c.ls.drop j)) w) := by
  have H1 := Lib.hid (fun (w : World) (h : SlT w c.A c.ls.length c.ls) => r8wrong_new (cap := c.cap) (B := c.B) (C := C) (rn := c.rn) (rc := c.rc) (xn := xs.length) (xc := k) (en := c.en) (e := 9) (pl := c.pl) h hj)
  have hE : PTree.ex c.en .whole d (c.ls.drop j) = some (.bad 9 (PTree.placeOf c.en (c.ls.drop j))) := by
    rw [PTree.ex_eq]; simp only [PTree.body]; rw [if_pos hd]
  obtain ⟨P, hP⟩ : ∃ P, PTree.placeOf c.en (c.ls.drop j) = P := ⟨_, rfl⟩
  rw [hP] at H1 hE
  have HE := Lib.hid hE
  have HA := Lib.hid hA
  have HX := Lib.hid hX
  have HC := Lib.hid hC
  have g20 : (20 : Int) < (d : Int) := by omega
  clear hA hX hC hd hP hE
  obtain ⟨Q, hQ⟩ : ∃ Q, Ans c xs (xs.length + (c.ls.length - j) + 5 * (22 - d) + 4) (PTree.ex c.en .whole d (c.ls.drop j)) w = Q := ⟨_, rfl⟩
  rw [hQ]
  have HQ := Lib.hid hQ
  clear hQ
  unfold sv stV
  unfold stV at H1
  go_enter Tryz.func26, Tryz.ntmps26
  go_upto_region 2 with fail
  obtain ⟨w1, hw1, XB, RB, b1, hs1⟩ := enter2 w 68 68 (sc c C xs.length k j 0 c.pl) zeroC
  unfold sc stC at hw1; unfold zeroC at hw1
  rw [hw1]
  obtain ⟨L, hL⟩ : ∃ L, w.heap.size = L := ⟨_, rfl⟩
  have HX1 := Lib.hid (HX.out.on b1)
  have HA1 := Lib.hid (HA.out.on b1)
  rw [hL] at XB RB hs1 b1 ⊢
  have XB1 := Lib.hid XB; have RB1 := Lib.hid RB; have B1 := Lib.hid b1; have HLw := Lib.hid hL
  clear hw1 hL b1 XB RB HX HA
  obtain ⟨c0, c1, c2, c3, c4, c5, c6⟩ := box7 XB1.out
  go_wp2_with fail
  refine (H1.out _ HA1.out).mono ?_
  rintro _ w2 ⟨rfl, b⟩
  have xb := XB1.out.on b
  obtain ⟨w3, hw, xb2, ON⟩ := store7 xb (.slice c.A c.ls.length c.cap) (.int .i64 c.en) (.int .i64 j) (.slice c.B c.rn c.rc) (.slice C xs.length k) (.int .i64 9) (.int .i64 P)
  have XB3 : Hid (Box w3 L (sc c C xs.length k j 9 P)) := Lib.hid xb2
  have RB3 := Lib.hid ((RB1.out.on b).only ON (by omega))
  have HX3 := Lib.hid ((HX1.out.on b).cellsE ON.size (fun b' hA' h0 o => ON.cell ⟨b', o, none⟩ (by
    obtain ⟨off, rfl⟩ := hA'
    obtain ⟨b2, off2, e, hc⟩ := (HX1.out.on b).at (i := 0) (by omega)
    cases e
    exact xb.apart (hc 0 (by omega) 0 _ rfl) (sc_str _ _ _ _ _ _ _ _))))
  have B3 := Lib.hid (ON.below (Nat.le_refl _) (B1.out.trans (b.mono (Nat.le_of_lt XB1.out.1))))
  have HW := Lib.hid hw
  clear c0 c1 c2 c3 c4 c5 c6
  obtain ⟨c0, c1, c2, c3, c4, c5, c6⟩ := box7 xb
  obtain ⟨f0, f1, f2, f3, f4, f5, f6⟩ := box7f xb
  clear b xb hw xb2 ON XB1 RB1 HA1 B1 HX1 H1 hs1
  go_upto_region 3 with fail
  rw [HW.out]
  clear HW c0 c1 c2 c3 c4 c5 c6 f0 f1 f2 f3 f4 f5 f6 w2
  obtain ⟨c0, c1, c2, c3, c4, c5, c6⟩ := box7 XB3.out
  obtain ⟨r0, r1, r2, r3, r4, r5, r6⟩ := box7 RB3.out
  obtain ⟨f0, f1, f2, f3, f4, f5, f6⟩ := box7f RB3.out
  obtain ⟨w4, hw, rb, ON⟩ := store7 RB3.out (.slice c.A c.ls.length c.cap) (.int .i64 c.en) (.int .i64 j) (.slice c.B c.rn c.rc) (.slice C xs.length k) (.int .i64 9) (.int .i64 P)
  obtain ⟨k0, k1', k2', k3', k4', k5', k6'⟩ := box7 rb
  rw [← hw] at k0 k1' k2' k3' k4' k5' k6'
  have HW := Lib.hid hw
  have HX4 := Lib.hid (HX3.out.cellsE ON.size (fun b' hA' h0 o => ON.cell ⟨b', o, none⟩ (by
    obtain ⟨off, rfl⟩ := hA'
    obtain ⟨b2, off2, e, hc⟩ := HX3.out.at (i := 0) (by omega)
    cases e
    exact RB3.out.apart (hc 0 (by omega) 0 _ rfl) (zero_str _))))
  have B4 := Lib.hid (ON.below (Nat.le_succ L) B3.out)
  clear hw rb ON HX3 B3 XB3 RB3
  go_wp2_with fail
  (try simp only [Exit.inBlock, Exit.then])
  refine bodyPost_ret (by simp [results, Tryz.results26, go_sem, k0, k1', k2', k3', k4', k5', k6']; try rfl) rfl ?_
  rw [← HQ.out, HW.out]
  exact ans_bad HE.out (.inr rfl) HC.out HX4.out (by omega) (by rw [HLw.out]; exact B4.out)

set_option maxHeartbeats 6400000 in
set_option maxRecDepth 100000 in
theorem whole_chain {c : Cfg} {N : Nat} (IC : ChainC c N) {d j : Nat} {xs : List Ex} {C : Option Addr} {k : Nat} {w : World} (hN : 10 * (c.ls.length - j) + 9 < N + 1) (hj : j ≤ c.ls.length) (hd : d ≤ 20) (hA : SlT w c.A c.ls.length c.ls) (hX : SlE c.N w C xs.length xs) (hC : C = none → k = 0)
    (hB : xs.length + (c.ls.length - j) + 5 * (22 - d) + 4 ≤ 5000) (ht : PTree.textOf (c.ls.drop j) ≠ [105, 102]) :
    Calls Tryz.prog 26 #[sv c C xs.length k j 0 c.pl, .int .i64 d] w (Ans c xs (xs.length + (c.ls.length - j) + 5 * (22 - d) + 4) (PTree.ex c.en .whole d (c.ls.drop j)) w) := by
  have H1 := Lib.hid (fun (w : World) (h : SlT w c.A c.ls.length c.ls) => r8text_any (cap := c.cap) (B := c.B) (C := C) (rn := c.rn) (rc := c.rc) (xn := xs.length) (xc := k) (en := c.en) (er := 0) (pl := c.pl) h hj)
  have hE : PTree.ex c.en .whole d (c.ls.drop j) = PTree.ex c.en (.chain 0) d (c.ls.drop j) := by
    rw [PTree.ex_eq]; simp only [PTree.body]; rw [if_neg (by omega), if_neg ht]
  rw [hE]
  obtain ⟨t, htt⟩ : ∃ t, PTree.textOf (c.ls.drop j) = t := ⟨_, rfl⟩
  rw [htt] at H1 ht
  obtain ⟨tb, htb⟩ : ∃ b, ({ data := t.toArray } : ByteArray) = b := ⟨_, rfl⟩
  have g1 : (tb.toList == [105, 102]) = false := by rw [beq_eq_false_iff_ne, ByteArray.toList_eq, ← htb]; exact ht
  rw [htb] at H1
  have H2 := Lib.hid (fun (w : World) (h : SlT w c.A c.ls.length c.ls) (h2 : SlE c.N w C xs.length xs) => IC 0 d j xs C k w (by simp only [Md.c]; rw [if_pos trivial]; omega) (by omega) hj (by omega) h h2 hC (by omega))
  have HA := Lib.hid hA
  have HX := Lib.hid hX
  have g20 : ¬ (20 : Int) < (d : Int) := by omega
  clear hA hX hC hd htt htb ht hE hN hB hj
  obtain ⟨Q, hQ⟩ : ∃ Q, Ans c xs (xs.length + (c.ls.length - j) + 5 * (22 - d) + 4) (PTree.ex c.en (.chain 0) d (c.ls.drop j)) w = Q := ⟨_, rfl⟩
  rw [hQ]
  have HQ := Lib.hid hQ
  clear hQ
  unfold sv stV
  unfold stV at H1
  go_enter Tryz.func26, Tryz.ntmps26
  go_upto_region 5 with fail
  obtain ⟨w1, hw1, XB, RB, b1, hs1⟩ := enter2 w 68 68 (sc c C xs.length k j 0 c.pl) zeroC
  unfold sc stC at hw1; unfold zeroC at hw1
  rw [hw1]
  obtain ⟨L, hL⟩ : ∃ L, w.heap.size = L := ⟨_, rfl⟩
  have HX1 := Lib.hid (HX.out.on b1)
  have HA1 := Lib.hid (HA.out.on b1)
  rw [hL] at XB RB hs1 b1 ⊢
  have XB1 := Lib.hid XB; have RB1 := Lib.hid RB; have B1 := Lib.hid b1; have HLw := Lib.hid hL
  clear hw1 hL b1 XB RB HX HA
  obtain ⟨c0, c1, c2, c3, c4, c5, c6⟩ := box7 XB1.out
  go_wp2_with fail
  refine (H1.out _ HA1.out).mono ?_
  rintro _ w2 ⟨rfl, b⟩
  have XB2 := Lib.hid (XB1.out.on b); have RB2 := Lib.hid (RB1.out.on b); have HA2 := Lib.hid (HA1.out.on b); have HX2 := Lib.hid (HX1.out.on b)
  have B2 := Lib.hid (B1.out.trans (b.mono (by omega)))
  clear b c0 c1 c2 c3 c4 c5 c6 XB1 RB1 HA1 HX1 B1 H1 hs1
  obtain ⟨c0, c1, c2, c3, c4, c5, c6⟩ := box7 XB2.out
  go_wp2_with fail
  refine (H2.out _ HA2.out HX2.out).mono ?_
  rintro _ w3 ⟨C1, n1, k1, i1, er1, p1, a1, rfl, hR, ha, b⟩
  unfold sv stV
  have RB3 := Lib.hid (RB2.out.on b)
  have RS1 := Lib.hid hR
  have AI := Lib.hid ha
  have B3 := Lib.hid (B2.out.trans (b.mono (Nat.le_of_lt XB2.out.1)))
  clear hR ha b c0 c1 c2 c3 c4 c5 c6 XB2 RB2 HA2 HX2 B2 H2
  obtain ⟨r0, r1, r2, r3, r4, r5, r6⟩ := box7 RB3.out
  obtain ⟨f0, f1, f2, f3, f4, f5, f6⟩ := box7f RB3.out
  obtain ⟨w4, hw, rb, ON⟩ := store7 RB3.out (.slice c.A c.ls.length c.cap) (.int .i64 c.en) (.int .i64 i1) (.slice c.B c.rn c.rc) (.slice C1 n1 k1) (.int .i64 er1) (.int .i64 p1)
  obtain ⟨k0, k1', k2', k3', k4', k5', k6'⟩ := box7 rb
  rw [← hw] at k0 k1' k2' k3' k4' k5' k6'
  have HW := Lib.hid hw
  have RS2 := Lib.hid (RS1.out.only RB3.out zero_str ON)
  have B4 := Lib.hid (ON.below (Nat.le_succ L) B3.out)
  clear hw rb ON RS1 B3 RB3
  go_wp2_with fail
  (try simp only [Exit.inBlock, Exit.then])
  refine bodyPost_ret (by simp [results, Tryz.results26, go_sem, k0, k1', k2', k3', k4', k5', k6']; try rfl) rfl ?_
  rw [← HQ.out, HW.out]
  exact ⟨C1, n1, k1, i1, er1, p1, a1, rfl, RS2.out.less (by omega), AI.out, by rw [HLw.out]; exact B4.out⟩

theorem whole_step {c : Cfg} {N : Nat} (hl : c.ls.length ≤ 1000) (IW : WholeC c N) (IC : ChainC c N) : WholeC c (N + 1) := by
  intro d j xs C k w hN hj hd hA hX hC hB
  by_cases h20 : 20 < d
  · exact whole_deep hj h20 hA hX hC
  · by_cases ht : PTree.textOf (c.ls.drop j) = [105, 102]
    · exact whole_if hl IW hN hj (by omega) hA hX hC hB ht
    · exact whole_chain IC hN hj (by omega) hA hX hC hB ht
end Go.Proofs.YtdkcdgjpcojdfaaGreatDoor

namespace Go.Proofs.YtdkcdgjpcojdfaaGreatDoor
open Go.RowKit
open PTree (R Ex Tr Md)

set_option maxHeartbeats 6400000 in
set_option maxRecDepth 100000 in
theorem chain_last {c : Cfg} {N : Nat} (IF : FactorC c N) {d j : Nat} {xs : List Ex} {C : Option Addr} {k : Nat} {w : World} (hN : 10 * (c.ls.length - j) + 5 < N + 1) (hj : j ≤ c.ls.length) (hd : d ≤ 21) (hA : SlT w c.A c.ls.length c.ls) (hX : SlE c.N w C xs.length xs) (hC : C = none → k = 0)
    (hB : xs.length + (c.ls.length - j) + 5 * (22 - d) ≤ 5000) :
    Calls Tryz.prog 43 #[sv c C xs.length k j 0 c.pl, .int .i64 d, .int .i64 3] w (Ans c xs (xs.length + (c.ls.length - j) + 5 * (22 - d)) (PTree.ex c.en (.chain 3) d (c.ls.drop j)) w) := by
  have hE : PTree.ex c.en (.chain 3) d (c.ls.drop j) = PTree.ex c.en .factor d (c.ls.drop j) := by
    rw [PTree.ex_eq]; simp only [PTree.body]; rw [if_pos (by omega)]
  rw [hE]
  have H2 := Lib.hid (fun (w : World) (h : SlT w c.A c.ls.length c.ls) (h2 : SlE c.N w C xs.length xs) => IF d j xs C k w (by omega) hj hd h h2 hC (by omega))
  have HA := Lib.hid hA
  have HX := Lib.hid hX
  clear hA hX hC hd hE hN hB hj
  obtain ⟨Q, hQ⟩ : ∃ Q, Ans c xs (xs.length + (c.ls.length - j) + 5 * (22 - d)) (PTree.ex c.en .factor d (c.ls.drop j)) w = Q := ⟨_, rfl⟩
  rw [hQ]
  have HQ := Lib.hid hQ
  clear hQ
  unfold sv stV
  go_enter Tryz.func43, Tryz.ntmps43
  go_upto_region 2 with fail
  obtain ⟨w1, hw1, XB, RB, b1, hs1⟩ := enter2 w 68 68 (sc c C xs.length k j 0 c.pl) zeroC
  unfold sc stC at hw1; unfold zeroC at hw1
  rw [hw1]
  obtain ⟨L, hL⟩ : ∃ L, w.heap.size = L := ⟨_, rfl⟩
  have HX2 := Lib.hid (HX.out.on b1)
  have HA2 := Lib.hid (HA.out.on b1)
  rw [hL] at XB RB hs1 b1 ⊢
  have XB2 := Lib.hid XB; have RB2 := Lib.hid RB; have B2 := Lib.hid b1; have HLw := Lib.hid hL
  clear hw1 hL b1 XB RB HX HA
  obtain ⟨c0, c1, c2, c3, c4, c5, c6⟩ := box7 XB2.out
  go_wp2_with fail
  refine (H2.out _ HA2.out HX2.out).mono ?_
  rintro _ w3 ⟨C1, n1, k1, i1, er1, p1, a1, rfl, hR, ha, b⟩
  unfold sv stV
  have RB3 := Lib.hid (RB2.out.on b)
  have RS1 := Lib.hid hR
  have AI := Lib.hid ha
  have B3 := Lib.hid (B2.out.trans (b.mono (Nat.le_of_lt XB2.out.1)))
  clear hR ha b c0 c1 c2 c3 c4 c5 c6 XB2 RB2 HA2 HX2 B2 H2
  obtain ⟨r0, r1, r2, r3, r4, r5, r6⟩ := box7 RB3.out
  obtain ⟨f0, f1, f2, f3, f4, f5, f6⟩ := box7f RB3.out
  obtain ⟨w4, hw, rb, ON⟩ := store7 RB3.out (.slice c.A c.ls.length c.cap) (.int .i64 c.en) (.int .i64 i1) (.slice c.B c.rn c.rc) (.slice C1 n1 k1) (.int .i64 er1) (.int .i64 p1)
  obtain ⟨k0, k1', k2', k3', k4', k5', k6'⟩ := box7 rb
  rw [← hw] at k0 k1' k2' k3' k4' k5' k6'
  have HW := Lib.hid hw
  have RS2 := Lib.hid (RS1.out.only RB3.out zero_str ON)
  have B4 := Lib.hid (ON.below (Nat.le_succ L) B3.out)
  clear hw rb ON RS1 B3 RB3
  go_wp2_with fail
  (try simp only [Exit.inBlock, Exit.then])
  refine bodyPost_ret (by simp [results, Tryz.results43, go_sem, k0, k1', k2', k3', k4', k5', k6']; try rfl) rfl ?_
  rw [← HQ.out, HW.out]
  exact ⟨C1, n1, k1, i1, er1, p1, a1, rfl, RS2.out, AI.out, by rw [HLw.out]; exact B4.out⟩

theorem level_len {m : Nat} (hm : m ≤ 2) : (PTree.level m).length ≤ 100000 := by
  have : m = 0 ∨ m = 1 ∨ m = 2 := by omega
  rcases this with rfl | rfl | rfl <;> decide
def ChRel (c : Cfg) (L : Nat) (w0 : World) (xs : List Ex) (BD M K : Nat) (fin : Option (R Tr)) (F : List PLex.Tok → Tr → Option (R Tr)) (a : Value) (wr : World) : Prop :=
  ∃ C n k i er p, ∃ r : Option (R Tr), ∃ a' : Nat, a = .int .i64 a' ∧ Box wr L (sc c C n k i er p) ∧ Box wr (L + 1) zeroC ∧ SlT wr c.A c.ls.length c.ls ∧ RS c r (fun t => xs ++ t.flat xs.length) BD C n k i er p wr ∧
    (∀ ts t, r = some (.ok ts t) → a' = xs.length + t.size - 1 ∧ ts.length + 1 ≤ M ∧ xs.length + t.size + ts.length ≤ K) ∧ R.next r F = fin ∧ Below L w0 wr

set_option maxHeartbeats 12800000 in
set_option maxRecDepth 100000 in
theorem chain_loop {c : Cfg} {N : Nat} (hl : c.ls.length ≤ 1000) (IC : ChainC c N) {m d j : Nat} {xs : List Ex} {C : Option Addr} {k : Nat} {w : World} (hN : 10 * (c.ls.length - j) + (Md.chain m).c < N + 1) (hm : m ≤ 2) (hj : j ≤ c.ls.length) (hd : d ≤ 21) (hA : SlT w c.A c.ls.length c.ls) (hX : SlE c.N w C xs.length xs) (hC : C = none → k = 0)
    (hB : xs.length + (c.ls.length - j) + 5 * (22 - d) + (3 - m) ≤ 5000) :
    Calls Tryz.prog 43 #[sv c C xs.length k j 0 c.pl, .int .i64 d, .int .i64 m] w (Ans c xs (xs.length + (c.ls.length - j) + 5 * (22 - d) + (3 - m)) (PTree.ex c.en (.chain m) d (c.ls.drop j)) w) := by
  have hE : PTree.ex c.en (.chain m) d (c.ls.drop j) = R.next (PTree.ex c.en (.chain (m + 1)) d (c.ls.drop j)) fun ts t => PTree.ex c.en (.more m t) d ts := by
    rw [PTree.ex_eq]; simp only [PTree.body]; rw [if_neg (by omega)]
  have hc1 : (Md.chain (m + 1)).c + 1 ≤ (Md.chain m).c := by
    have : m = 0 ∨ m = 1 ∨ m = 2 := by omega
    rcases this with rfl | rfl | rfl <;> decide
  have hc2 : (Md.chain (m + 1)).c ≤ 7 := by
    have : m = 0 ∨ m = 1 ∨ m = 2 := by omega
    rcases this with rfl | rfl | rfl <;> decide
  have HE := Lib.hid hE
  have H2 := Lib.hid (fun (w : World) (h : SlT w c.A c.ls.length c.ls) (h2 : SlE c.N w C xs.length xs) => IC (m + 1) d j xs C k w (by omega) (by omega) hj hd h h2 hC (by omega))
  have H3 : Hid (∀ (j' : Nat) (ys : List Ex) (C : Option Addr) (k : Nat) (w : World), j' ≤ c.ls.length → (c.ls.length - j') + 1 ≤ c.ls.length - j → ys.length + (c.ls.length - j') ≤ xs.length + (c.ls.length - j) → SlT w c.A c.ls.length c.ls → SlE c.N w C ys.length ys → (C = none → k = 0) → Calls Tryz.prog 43 #[sv c C ys.length k j' 0 c.pl, .int .i64 d, .int .i64 ((m + 1 : Nat) : Int)] w (Ans c ys (ys.length + (c.ls.length - j') + 5 * (22 - d) + (3 - (m + 1))) (PTree.ex c.en (.chain (m + 1)) d (c.ls.drop j')) w)) := Lib.hid (fun j' ys C k w h1 h2 h3 h4 h5 h6 => IC (m + 1) d j' ys C k w (by omega) (by omega) h1 hd h4 h5 h6 (by omega))
  have H4 := Lib.hid (fun (w : World) => r8level_any m w hm)
  have HG := Lib.hid (PTree.ex_good c.en (.chain (m + 1)) d (c.ls.drop j))
  have HF := Lib.hid (PTree.ex_few c.en (.chain (m + 1)) d (c.ls.drop j))
  have HA := Lib.hid hA
  have HX := Lib.hid hX
  have HB := Lib.hid hB
  have HM := Lib.hid hm
  have HD := Lib.hid hd
  have HJ := Lib.hid hj
  have m3 : ((m : Int) == 3) = false := by rw [beq_eq_false_iff_ne]; omega
  have m2 : (m : Int) ≤ 2 := by omega
  obtain ⟨q, hq⟩ : ∃ q, q = m + 1 := ⟨_, rfl⟩
  have gq : (m : Int) + 1 = (q : Int) := by omega
  rw [← hq] at H2 H3 HG HF HE
  have QQ := Lib.hid hq
  clear hA hX hC hd hE hN hB hj hc1 hc2 hm hq
  obtain ⟨Q, hQ⟩ : ∃ Q, Ans c xs (xs.length + (c.ls.length - j) + 5 * (22 - d) + (3 - m)) (PTree.ex c.en (.chain m) d (c.ls.drop j)) w = Q := ⟨_, rfl⟩
  rw [hQ]
  have HQ := Lib.hid hQ
  clear hQ
  unfold sv stV
  go_enter Tryz.func43, Tryz.ntmps43
  go_upto_region 3 with fail
  obtain ⟨w1, hw1, XB, RB, b1, hs1⟩ := enter2 w 68 68 (sc c C xs.length k j 0 c.pl) zeroC
  unfold sc stC at hw1; unfold zeroC at hw1
  rw [hw1]
  obtain ⟨L, hL⟩ : ∃ L, w.heap.size = L := ⟨_, rfl⟩
  have HX2 := Lib.hid (HX.out.on b1)
  have HA2 := Lib.hid (HA.out.on b1)
  rw [hL] at XB RB hs1 b1 ⊢
  have XB2 := Lib.hid XB; have RB2 := Lib.hid RB; have B2 := Lib.hid b1; have HLw := Lib.hid hL
  clear hw1 hL b1 XB RB HX HA
  obtain ⟨c0, c1, c2, c3, c4, c5, c6⟩ := box7 XB2.out
  go_wp2_with fail
  refine (H2.out _ HA2.out HX2.out).mono ?_
  rintro _ w3 ⟨C1, n1, k1, i1, er1, p1, a1, rfl, hR, ha, b⟩
  unfold sv stV
  have xb := XB2.out.on b
  obtain ⟨w4, hw, xb2, ON⟩ := store7 xb (.slice c.A c.ls.length c.cap) (.int .i64 c.en) (.int .i64 i1) (.slice c.B c.rn c.rc) (.slice C1 n1 k1) (.int .i64 er1) (.int .i64 p1)
  have HW := Lib.hid hw
  have REL : Hid (ChRel c L w xs (xs.length + (c.ls.length - j) + 5 * (22 - d) + (3 - m)) (c.ls.length - j) (xs.length + (c.ls.length - j)) (PTree.ex c.en (.chain m) d (c.ls.drop j)) (fun ts t => PTree.ex c.en (.more m t) d ts) (.int .i64 a1) w4) := Lib.hid ⟨C1, n1, k1, i1, er1, p1, PTree.ex c.en (.chain q) d (c.ls.drop j), a1, rfl, xb2, (RB2.out.on b).only ON (by omega), (HA2.out.on b).only xb (sc_str _ _ _ _ _ _ _) ON, (hR.less (by have := QQ.out; have := HM.out; omega)).only xb (sc_str _ _ _ _ _ _ _) ON, (fun ts t e => by
      obtain ⟨r', g1, g2⟩ := HG.out
      rw [e] at g1
      cases g1
      have g3 := g2 _ _ rfl
      have g4 := HF.out _ _ e
      simp only [Md.sz, Md.takes, List.length_drop] at g3 g4
      exact ⟨ha _ _ e, g3, by omega⟩), HE.out.symm, ON.below (Nat.le_refl _) (B2.out.trans (b.mono (Nat.le_of_lt XB2.out.1)))⟩
  clear c0 c1 c2 c3 c4 c5 c6
  obtain ⟨c0, c1, c2, c3, c4, c5, c6⟩ := box7 xb
  obtain ⟨f0, f1, f2, f3, f4, f5, f6⟩ := box7f xb
  clear hR ha b xb hw xb2 ON XB2 RB2 HA2 HX2 B2 H2 HG HF HE hs1 w1
  go_wp2_with fail
  rw [HW.out]
  clear HW c0 c1 c2 c3 c4 c5 c6 f0 f1 f2 f3 f4 f5 f6 w3
  go_loopw [8] (fun a wr => ChRel c L w xs (xs.length + (c.ls.length - j) + 5 * (22 - d) + (3 - m)) (c.ls.length - j) (xs.length + (c.ls.length - j)) (PTree.ex c.en (.chain m) d (c.ls.drop j)) (fun ts t => PTree.ex c.en (.more m t) d ts) a wr) (fun _ wr => stM wr L)
  case atStart => exact REL.out
  case round =>
    clear REL
    obtain ⟨C1, n1, k1, i1, er1, p1, r, a1, rfl, xb, rb, ha, hr, hai, hnx, hb⟩ := hrel
    have XB := Lib.hid xb; have RB := Lib.hid rb; have HA := Lib.hid ha; have RS1 := Lib.hid hr; have AI := Lib.hid hai; have NX := Lib.hid hnx; have B1 := Lib.hid hb
    have MS := Lib.hid (stM_box xb)
    clear xb rb ha hai hnx hb
    rcases hr.split with ⟨he, e, q', hbad⟩ | ⟨rfl, rfl, t, J, hok, hJ, rfl, rfl, hsl, hcn⟩
    · have e0 : (er1 == 0) = false := by rw [beq_eq_false_iff_ne]; exact he
      clear hr
      have HBAD := Lib.hid hbad
      clear hbad he
      obtain ⟨c0, c1, c2, c3, c4, c5, c6⟩ := box7 XB.out
      obtain ⟨r0, r1, r2, r3, r4, r5, r6⟩ := box7 RB.out
      obtain ⟨f0, f1, f2, f3, f4, f5, f6⟩ := box7f RB.out
      obtain ⟨w4, hw, rb, ON⟩ := store7 RB.out (.slice c.A c.ls.length c.cap) (.int .i64 c.en) (.int .i64 i1) (.slice c.B c.rn c.rc) (.slice C1 n1 k1) (.int .i64 er1) (.int .i64 p1)
      obtain ⟨k0, k1', k2', k3', k4', k5', k6'⟩ := box7 rb
      rw [← hw] at k0 k1' k2' k3' k4' k5' k6'
      have HW := Lib.hid hw
      have RS2 := Lib.hid (RS1.out.only RB.out zero_str ON)
      have B4 := Lib.hid (ON.below (Nat.le_succ L) B1.out)
      clear hw rb ON RS1 B1 RB
      go_wp2_with fail
      (try simp only [Exit.inBlock, Exit.then])
      refine bodyPost_ret (by simp [results, Tryz.results43, go_sem, k0, k1', k2', k3', k4', k5', k6']; try rfl) rfl ?_
      rw [← HQ.out, HW.out]
      have hfin : PTree.ex c.en (.chain m) d (c.ls.drop j) = r := by rw [← NX.out, HBAD.out]; rfl
      rw [hfin]
      exact ⟨C1, n1, k1, i1, er1, p1, a1, rfl, RS2.out, fun ts t e => (AI.out ts t e).1, by rw [HLw.out]; exact B4.out⟩
    · have HT := Lib.hid (fun (w : World) (h : SlT w c.A c.ls.length c.ls) => r8text_any (cap := c.cap) (B := c.B) (C := C1) (rn := c.rn) (rc := c.rc) (xn := (xs ++ t.flat xs.length).length) (xc := k1) (en := c.en) (er := 0) (pl := c.pl) h hJ)
      have e0 : ((0 : Int) == 0) = true := rfl
      clear hr
      have HSL := Lib.hid hsl; have HCN := Lib.hid hcn; have HJJ := Lib.hid hJ; have HOK := Lib.hid hok
      obtain ⟨o, ho⟩ : ∃ o, PTree.textOf (c.ls.drop J) = o := ⟨_, rfl⟩
      rw [ho] at HT
      have HO := Lib.hid ho
      obtain ⟨ob, hob⟩ : ∃ b, ({ data := o.toArray } : ByteArray) = b := ⟨_, rfl⟩
      have HOB : Hid (ob.data.toList = o) := Lib.hid (by rw [← hob])
      rw [hob] at HT
      have HOBB := Lib.hid hob
      obtain ⟨nn, hnn⟩ : ∃ nn, (xs ++ t.flat xs.length).length = nn := ⟨_, rfl⟩
      have HNN := Lib.hid hnn
      rw [hnn] at HT XB RS1 HSL
      clear hsl hcn hJ hok ho hob hnn
      unfold stV at HT
      obtain ⟨c0, c1, c2, c3, c4, c5, c6⟩ := box7 XB.out
      go_wp2_with fail
      refine (HT.out _ HA.out).mono ?_
      rintro _ w2 ⟨rfl, b⟩
      have XB2 := Lib.hid (XB.out.on b); have RB2 := Lib.hid (RB.out.on b); have HA2 := Lib.hid (HA.out.on b); have RS2 := Lib.hid (RS1.out.on b)
      have B2 := Lib.hid (B1.out.trans (b.mono (Nat.le_of_lt XB.out.1)))
      clear b c0 c1 c2 c3 c4 c5 c6 XB RB HA RS1 B1 HSL
      go_wp2_with fail
      refine (H4.out _).mono ?_
      rintro _ w3 ⟨LA, lc, rfl, lsl, b⟩
      have XB3 := Lib.hid (XB2.out.on b); have RB3 := Lib.hid (RB2.out.on b); have HA3 := Lib.hid (HA2.out.on b); have RS3 := Lib.hid (RS2.out.on b)
      have B3 := Lib.hid (B2.out.trans (b.mono (Nat.le_of_lt XB2.out.1)))
      have H5 := Lib.hid (r8one_any (u := ob) (c := lc) lsl (level_len HM.out))
      rw [HOB.out] at H5
      clear b lsl XB2 RB2 HA2 RS2 B2
      go_wp2_with fail
      refine H5.out.mono ?_
      rintro _ _ ⟨rfl, rfl⟩
      clear H5
      obtain ⟨c0, c1, c2, c3, c4, c5, c6⟩ := box7 XB3.out
      by_cases hin : o ∈ PTree.level m
      · rw [decide_eq_true hin]
        have HIN := Lib.hid hin
        clear hin
        have HLT : Hid (J < c.ls.length) := Lib.hid (drop_pos HO.out (PTree.level_ne HIN.out))
        have hJ2 : (J : Int) < 1000 := by have := HLT.out; omega
        obtain ⟨J1, hJ1⟩ : ∃ J1, J1 = J + 1 := ⟨_, rfl⟩
        have gJ : (J : Int) + 1 = (J1 : Int) := by omega
        have JJ := Lib.hid hJ1
        clear hJ1
        go_wp2_with fail
        refine (HT.out _ HA3.out).mono ?_
        rintro _ w5 ⟨rfl, b⟩
        have XB5 := Lib.hid (XB3.out.on b); have RB5 := Lib.hid (RB3.out.on b); have HA5 := Lib.hid (HA3.out.on b); have RS5 := Lib.hid (RS3.out.on b)
        have B5 := Lib.hid (B3.out.trans (b.mono (Nat.le_of_lt XB3.out.1)))
        clear b c0 c1 c2 c3 c4 c5 c6 XB3 RB3 HA3 RS3 B3 HT H4
        obtain ⟨c0, c1, c2, c3, c4, c5, c6⟩ := box7 XB5.out
        obtain ⟨f0, f1, f2, f3, f4, f5, f6⟩ := box7f XB5.out
        go_upto_region 7 with fail
        obtain ⟨w6, hw6⟩ : ∃ w6, w5.setCell ⟨L, 2, none⟩ (.int .i64 J1) = w6 := ⟨_, rfl⟩
        have ON : Only L w5 w6 := by rw [← hw6]; exact (Only.refl L w5).set 2 _
        have XB6 : Hid (Box w6 L (sc c C1 nn k1 J1 0 c.pl)) := Lib.hid (by rw [← hw6]; exact XB5.out.set 2 (by simp [sc, stC]) _)
        have RB6 := Lib.hid (RB5.out.only ON (by omega))
        have HA6 := Lib.hid (HA5.out.only XB5.out (sc_str _ _ _ _ _ _ _) ON)
        have RS6 := Lib.hid (RS5.out.only XB5.out (sc_str _ _ _ _ _ _ _) ON)
        have B6 := Lib.hid (ON.below (Nat.le_refl _) B5.out)
        rw [hw6]
        clear hw6 ON XB5 RB5 HA5 RS5 B5 c0 c1 c2 c3 c4 c5 c6 f0 f1 f2 f3 f4 f5 f6
        obtain ⟨c0, c1, c2, c3, c4, c5, c6⟩ := box7 XB6.out
        have HSL6 : Hid (SlE c.N w6 C1 (xs ++ t.flat xs.length).length (xs ++ t.flat xs.length)) := Lib.hid (by
          obtain ⟨_, ys, g2, g3, _, g5⟩ := RS6.out
          rw [HOK.out] at g5
          obtain ⟨rfl, _⟩ := g5
          rw [← g2] at g3; exact g3)
        have H6 := Lib.hid (H3.out J1 (xs ++ t.flat xs.length) C1 k1 w6 (by have := JJ.out; have := HLT.out; omega) (by have := (AI.out _ _ HOK.out).2.1; rw [List.length_drop] at this; have := JJ.out; have := HLT.out; omega) (by have := (AI.out _ _ HOK.out).2.2; rw [List.length_drop] at this; simp only [List.length_append, Tr.flat_len]; have := JJ.out; have := HLT.out; omega) HA6.out HSL6.out HCN.out)
        rw [HNN.out] at H6
        clear H3
        go_wp2_with fail
        refine H6.out.mono ?_
        rintro _ w7 ⟨C2, n2, k2, i2, er2, p2, a2, rfl, hR, ha, b⟩
        unfold sv stV
        have XB7 := Lib.hid (XB6.out.on b); have RB7 := Lib.hid (RB6.out.on b); have HA7 := Lib.hid (HA6.out.on b); have RS7 := Lib.hid hR
        have AI7 := Lib.hid ha
        have B7 := Lib.hid (B6.out.trans (b.mono (Nat.le_of_lt XB6.out.1)))
        clear hR ha b H6 HSL6 XB6 RB6 HA6 RS6 B6 c0 c1 c2 c3 c4 c5 c6
        go_upto_region 8 with fail
        obtain ⟨w8, hw8⟩ : ∃ w8, w7.alloc (.cells (sc c C2 n2 k2 i2 er2 p2).toArray 68) = w8 := ⟨_, rfl⟩
        have al : Below w7.heap.size w7 w8 := by rw [← hw8]; exact (Below.refl _ _).alloc (Nat.le_refl _) _
        have YB8 : Hid (Box w8 w7.heap.size (sc c C2 n2 k2 i2 er2 p2)) := Lib.hid (by rw [← hw8]; exact Box.new _ _ _)
        have XB8 := Lib.hid (XB7.out.on al); have RB8 := Lib.hid (RB7.out.on al); have HA8 := Lib.hid (HA7.out.on al); have RS8 := Lib.hid (RS7.out.on al)
        have B8 := Lib.hid (B7.out.trans (al.mono (Nat.le_of_lt XB7.out.1)))
        unfold sc stC at hw8
        rw [hw8]
        clear hw8 al XB7 RB7 HA7 RS7 B7
        obtain ⟨y0, y1, y2, y3, y4, y5, y6⟩ := box7 YB8.out
        obtain ⟨Y, hY⟩ : ∃ Y, w7.heap.size = Y := ⟨_, rfl⟩
        rw [hY] at y0 y1 y2 y3 y4 y5 y6 ⊢
        have HP := r8put RS8.out (by have := HB.out; have := HNN.out; have h3 := (AI.out _ _ HOK.out).2.2; rw [List.length_drop] at h3; simp only [List.length_append, Tr.flat_len] at this; have := JJ.out; have := HLT.out; have := HM.out; omega) ⟨o, [], 0, a1, a2, 0⟩
        unfold exC at HP
        simp only [] at HP
        rw [HOBB.out] at HP
        have HP := Lib.hid HP
        clear YB8 hY
        go_wp2_with fail
        refine HP.out.mono ?_
        rintro _ w9 ⟨C3, n3, k3, rfl, rfl, hR, b⟩
        unfold sv stV
        have XB9 := Lib.hid (XB8.out.on b); have RB9 := Lib.hid (RB8.out.on b); have HA9 := Lib.hid (HA8.out.on b); have RS9 := Lib.hid hR
        have B9 := Lib.hid (B8.out.trans (b.mono (Nat.le_of_lt XB8.out.1)))
        clear hR b HP RS8 XB8 RB8 HA8 B8 y0 y1 y2 y3 y4 y5 y6
        go_upto_region 9 with fail
        obtain ⟨w10, hw10⟩ : ∃ w10, w9.alloc (.cells (sc c C3 (n2 + 1) k3 i2 er2 p2).toArray 68) = w10 := ⟨_, rfl⟩
        have al : Below w9.heap.size w9 w10 := by rw [← hw10]; exact (Below.refl _ _).alloc (Nat.le_refl _) _
        have ZB10 : Hid (Box w10 w9.heap.size (sc c C3 (n2 + 1) k3 i2 er2 p2)) := Lib.hid (by rw [← hw10]; exact Box.new _ _ _)
        have xb := XB9.out.on al
        obtain ⟨w11, hw, xb2, ON⟩ := store7 xb (.slice c.A c.ls.length c.cap) (.int .i64 c.en) (.int .i64 i2) (.slice c.B c.rn c.rc) (.slice C3 (n2 + 1) k3) (.int .i64 er2) (.int .i64 p2)
        have XB11 : Hid (Box w11 L (sc c C3 (n2 + 1) k3 i2 er2 p2)) := Lib.hid xb2
        have RB11 := Lib.hid ((RB9.out.on al).only ON (by omega))
        have HA11 := Lib.hid ((HA9.out.on al).only xb (sc_str _ _ _ _ _ _ _) ON)
        have RS11 := Lib.hid ((RS9.out.on al).only xb (sc_str _ _ _ _ _ _ _) ON)
        have B11 := Lib.hid (ON.below (Nat.le_refl _) (B9.out.trans (al.mono (Nat.le_of_lt XB9.out.1))))
        have HW := Lib.hid hw
        unfold sc stC at hw10
        rw [hw10]
        obtain ⟨z0, z1, z2, z3, z4, z5, z6⟩ := box7 ZB10.out
        obtain ⟨Z, hZ⟩ : ∃ Z, w9.heap.size = Z := ⟨_, rfl⟩
        rw [hZ] at z0 z1 z2 z3 z4 z5 z6 ⊢
        obtain ⟨c0, c1, c2, c3, c4, c5, c6⟩ := box7 xb
        obtain ⟨f0, f1, f2, f3, f4, f5, f6⟩ := box7f xb
        clear hw10 al ZB10 xb hw xb2 ON XB9 RB9 HA9 RS9 B9 hZ
        obtain ⟨RN, hRN⟩ : ∃ r, R.next (PTree.ex c.en (.chain q) d (c.ls.drop J1)) (fun t1 b => some (.ok t1 (Tr.bin o t b))) = r := ⟨_, rfl⟩
        have HRN := Lib.hid hRN
        have RSN : Hid (RS c RN (fun t => xs ++ t.flat xs.length) (xs.length + (c.ls.length - j) + 5 * (22 - d) + (3 - m)) C3 (n2 + 1) k3 i2 er2 p2 w11) := Lib.hid (by
          refine (RS11.out.done (X' := fun t => xs ++ t.flat xs.length) (g := fun b => Tr.bin o t b) hRN.symm (fun ts b hb => ?_)).less ?_
          · have h1 := (AI.out _ _ HOK.out).1
            have h2 := AI7.out _ _ hb
            simp only [List.length_append, Tr.flat_len] at h2 ⊢
            rw [h1, h2]
            simp only [Tr.flat, List.append_assoc]
          · have h3 := (AI.out _ _ HOK.out).2.2
            have h4 := HNN.out
            simp only [List.length_append, Tr.flat_len] at h4
            rw [List.length_drop] at h3
            have := JJ.out; have := HLT.out; have := HM.out; have := QQ.out
            omega)
        have AIN : Hid (∀ ts t', RN = some (.ok ts t') → n2 = xs.length + t'.size - 1 ∧ ts.length + 1 ≤ c.ls.length - j ∧ xs.length + t'.size + ts.length ≤ xs.length + (c.ls.length - j) ∧ ts.length + 1 ≤ c.ls.length - J1) := Lib.hid (fun ts t' e => by
          have h0 := RSN.out.len e
          rw [← hRN] at e
          obtain ⟨t1, b, e1, e2⟩ := next_ok e
          cases e2
          obtain ⟨r', g1, g2⟩ := PTree.ex_good c.en (.chain q) d (c.ls.drop J1)
          rw [e1] at g1
          cases g1
          have g3 := g2 _ _ rfl
          have g4 := PTree.ex_few c.en (.chain q) d (c.ls.drop J1) _ _ e1
          have h3 := (AI.out _ _ HOK.out).2
          have h5 := t.size_pos
          have h6 := b.size_pos
          simp only [List.length_append, Tr.flat_len, Tr.size, Md.sz, Md.takes, List.length_drop] at h0 g3 g4 h3 ⊢
          have := JJ.out; have := HLT.out
          omega)
        have NXN : Hid (if m = 0 then PTree.ex c.en (.chain m) d (c.ls.drop j) = RN else R.next RN (fun ts t => PTree.ex c.en (.more m t) d ts) = PTree.ex c.en (.chain m) d (c.ls.drop j)) := Lib.hid (by
          have h1 := NX.out
          rw [HOK.out] at h1
          have h2 : PTree.ex c.en (.more m t) d (c.ls.drop J) = R.next (PTree.ex c.en (.chain q) d (c.ls.drop J1)) (fun t1 b => if m = 0 then some (.ok t1 (.bin o t b)) else PTree.ex c.en (.more m (.bin o t b)) d t1) := by
            rw [PTree.ex_eq]; simp only [PTree.body]; rw [HO.out, if_pos HIN.out, List.tail_drop, ← JJ.out, ← QQ.out]
          have h3 : PTree.ex c.en (.chain m) d (c.ls.drop j) = PTree.ex c.en (.more m t) d (c.ls.drop J) := h1.symm
          rw [h3, h2]
          by_cases hm0 : m = 0
          · rw [if_pos hm0]
            simp only [if_pos hm0]
            exact hRN
          · rw [if_neg hm0]
            simp only [if_neg hm0]
            rw [← hRN, next_assoc]; rfl)
        clear hRN RS11 AI7
        go_upto_region 10 with fail
        rw [HW.out]
        clear HW c0 c1 c2 c3 c4 c5 c6 f0 f1 f2 f3 f4 f5 f6 z0 z1 z2 z3 z4 z5 z6
        by_cases hm0 : m = 0
        · have e00 : ((m : Int) == 0) = true := by rw [hm0]; rfl
          have FIN := NXN.out
          rw [if_pos hm0] at FIN
          have FIN := Lib.hid FIN
          clear hm0
          obtain ⟨c0, c1, c2, c3, c4, c5, c6⟩ := box7 XB11.out
          obtain ⟨r0, r1, r2, r3, r4, r5, r6⟩ := box7 RB11.out
          obtain ⟨f0, f1, f2, f3, f4, f5, f6⟩ := box7f RB11.out
          obtain ⟨w12, hw, rb, ON⟩ := store7 RB11.out (.slice c.A c.ls.length c.cap) (.int .i64 c.en) (.int .i64 i2) (.slice c.B c.rn c.rc) (.slice C3 (n2 + 1) k3) (.int .i64 er2) (.int .i64 p2)
          obtain ⟨k0, k1', k2', k3', k4', k5', k6'⟩ := box7 rb
          rw [← hw] at k0 k1' k2' k3' k4' k5' k6'
          have HW := Lib.hid hw
          have RS12 := Lib.hid (RSN.out.only RB11.out zero_str ON)
          have B12 := Lib.hid (ON.below (Nat.le_succ L) B11.out)
          clear hw rb ON B11 RB11
          go_wp2_with fail
          (try simp only [Exit.inBlock, Exit.then])
          refine bodyPost_ret (by simp [results, Tryz.results43, go_sem, k0, k1', k2', k3', k4', k5', k6']; try rfl) rfl ?_
          rw [← HQ.out, HW.out, FIN.out]
          exact ⟨C3, n2 + 1, k3, i2, er2, p2, n2, rfl, RS12.out, fun ts t e => (AIN.out ts t e).1, by rw [HLw.out]; exact B12.out⟩
        · have e00 : ((m : Int) == 0) = false := by rw [beq_eq_false_iff_ne]; omega
          have NXF := NXN.out
          rw [if_neg hm0] at NXF
          have NXF := Lib.hid NXF
          clear hm0
          go_wp2_with fail
          refine ⟨⟨C3, n2 + 1, k3, i2, er2, p2, RN, n2, rfl, XB11.out, RB11.out, HA11.out, RSN.out, fun ts t e => ⟨(AIN.out ts t e).1, (AIN.out ts t e).2.1, (AIN.out ts t e).2.2.1⟩, NXF.out, B11.out⟩, ?_⟩
          rw [stM_box XB11.out, MS.out]
          show (if er2 = 0 then (2000 - i2).toNat else 0) < (2000 - (J : Int)).toNat
          have hJ := HLT.out
          rcases RSN.out.split with ⟨he, _⟩ | ⟨he, _, b, J2, hb, hJ2, rfl, _⟩
          · rw [if_neg he]; omega
          · rw [if_pos he]
            have := (AIN.out _ _ hb).2.2.2
            rw [List.length_drop] at this
            have := JJ.out
            omega
      · rw [decide_eq_false hin]
        have HIN := Lib.hid hin
        clear hin
        obtain ⟨r0, r1, r2, r3, r4, r5, r6⟩ := box7 RB3.out
        obtain ⟨f0, f1, f2, f3, f4, f5, f6⟩ := box7f RB3.out
        obtain ⟨w4, hw, rb, ON⟩ := store7 RB3.out (.slice c.A c.ls.length c.cap) (.int .i64 c.en) (.int .i64 J) (.slice c.B c.rn c.rc) (.slice C1 nn k1) (.int .i64 0) (.int .i64 c.pl)
        obtain ⟨k0, k1', k2', k3', k4', k5', k6'⟩ := box7 rb
        rw [← hw] at k0 k1' k2' k3' k4' k5' k6'
        have HW := Lib.hid hw
        have RS4 := Lib.hid (RS3.out.only RB3.out zero_str ON)
        have B4 := Lib.hid (ON.below (Nat.le_succ L) B3.out)
        clear hw rb ON RS3 B3 RB3
        go_wp2_with fail
        (try simp only [Exit.inBlock, Exit.then])
        refine bodyPost_ret (by simp [results, Tryz.results43, go_sem, k0, k1', k2', k3', k4', k5', k6']; try rfl) rfl ?_
        rw [← HQ.out, HW.out]
        have hfin : PTree.ex c.en (.chain m) d (c.ls.drop j) = r := by
          rw [← NX.out, HOK.out]
          show PTree.ex c.en (.more m t) d (c.ls.drop J) = _
          rw [PTree.ex_eq]; simp only [PTree.body]; rw [HO.out, if_neg HIN.out]
        rw [hfin]
        exact ⟨C1, nn, k1, J, 0, c.pl, a1, rfl, RS4.out, fun ts t e => (AI.out ts t e).1, by rw [HLw.out]; exact B4.out⟩
theorem chain_step {c : Cfg} {N : Nat} (hl : c.ls.length ≤ 1000) (IC : ChainC c N) (IF : FactorC c N) : ChainC c (N + 1) := by
  intro m d j xs C k w hN hm hj hd hA hX hC hB
  by_cases h3 : m = 3
  · subst h3
    exact chain_last IF hN hj hd hA hX hC hB
  · exact chain_loop hl IC hN (by omega) hj hd hA hX hC hB
end Go.Proofs.YtdkcdgjpcojdfaaGreatDoor

namespace Go.Proofs.YtdkcdgjpcojdfaaGreatDoor
open Go.RowKit
open PTree (R Ex Tr Md)

set_option maxHeartbeats 6400000 in
set_option maxRecDepth 100000 in
theorem factor_deep {c : Cfg} {d j : Nat} {xs : List Ex} {C : Option Addr} {k : Nat} {w : World} (hj : j ≤ c.ls.length) (hd : 20 < d) (hA : SlT w c.A c.ls.length c.ls) (hX : SlE c.N w C xs.length xs) (hC : C = none → k = 0) :
    Calls Tryz.prog 72 #[sv c C xs.length k j 0 c.pl, .int .i64 d] w (Ans c xs (xs.length + (c.ls.length - j) + 5 * (22 - d)) (PTree.ex c.en .factor d (c.ls.drop j)) w) := by
  have H1 := Lib.hid (fun (w : World) (h : SlT w c.A c.ls.length c.ls) => r8wrong_new (cap := c.cap) (B := c.B) (C := C) (rn := c.rn) (rc := c.rc) (xn := xs.length) (xc := k) (en := c.en) (e := 9) (pl := c.pl) h hj)
  have hE : PTree.ex c.en .factor d (c.ls.drop j) = some (.bad 9 (PTree.placeOf c.en (c.ls.drop j))) := by
    rw [PTree.ex_eq]; simp only [PTree.body]; rw [if_pos hd]
  obtain ⟨P, hP⟩ : ∃ P, PTree.placeOf c.en (c.ls.drop j) = P := ⟨_, rfl⟩
  rw [hP] at H1 hE
  have HE := Lib.hid hE
  have HA := Lib.hid hA
  have HX := Lib.hid hX
  have HC := Lib.hid hC
  have g20 : (20 : Int) < (d : Int) := by omega
  clear hA hX hC hd hP hE
  obtain ⟨Q, hQ⟩ : ∃ Q, Ans c xs (xs.length + (c.ls.length - j) + 5 * (22 - d)) (PTree.ex c.en .factor d (c.ls.drop j)) w = Q := ⟨_, rfl⟩
  rw [hQ]
  have HQ := Lib.hid hQ
  clear hQ
  unfold sv stV
  unfold stV at H1
  go_enter Tryz.func72, Tryz.ntmps72
  go_upto_region 2 with fail
  obtain ⟨w1, hw1, XB, RB, b1, hs1⟩ := enter2 w 68 68 (sc c C xs.length k j 0 c.pl) zeroC
  unfold sc stC at hw1; unfold zeroC at hw1
  rw [hw1]
  obtain ⟨L, hL⟩ : ∃ L, w.heap.size = L := ⟨_, rfl⟩
  have HX1 := Lib.hid (HX.out.on b1)
  have HA1 := Lib.hid (HA.out.on b1)
  rw [hL] at XB RB hs1 b1 ⊢
  have XB1 := Lib.hid XB; have RB1 := Lib.hid RB; have B1 := Lib.hid b1; have HLw := Lib.hid hL
  clear hw1 hL b1 XB RB HX HA
  obtain ⟨c0, c1, c2, c3, c4, c5, c6⟩ := box7 XB1.out
  go_wp2_with fail
  refine (H1.out _ HA1.out).mono ?_
  rintro _ w2 ⟨rfl, b⟩
  have xb := XB1.out.on b
  obtain ⟨w3, hw, xb2, ON⟩ := store7 xb (.slice c.A c.ls.length c.cap) (.int .i64 c.en) (.int .i64 j) (.slice c.B c.rn c.rc) (.slice C xs.length k) (.int .i64 9) (.int .i64 P)
  have XB3 : Hid (Box w3 L (sc c C xs.length k j 9 P)) := Lib.hid xb2
  have RB3 := Lib.hid ((RB1.out.on b).only ON (by omega))
  have HX3 := Lib.hid ((HX1.out.on b).cellsE ON.size (fun b' hA' h0 o => ON.cell ⟨b', o, none⟩ (by
    obtain ⟨off, rfl⟩ := hA'
    obtain ⟨b2, off2, e, hc⟩ := (HX1.out.on b).at (i := 0) (by omega)
    cases e
    exact xb.apart (hc 0 (by omega) 0 _ rfl) (sc_str _ _ _ _ _ _ _ _))))
  have B3 := Lib.hid (ON.below (Nat.le_refl _) (B1.out.trans (b.mono (Nat.le_of_lt XB1.out.1))))
  have HW := Lib.hid hw
  clear c0 c1 c2 c3 c4 c5 c6
  obtain ⟨c0, c1, c2, c3, c4, c5, c6⟩ := box7 xb
  obtain ⟨f0, f1, f2, f3, f4, f5, f6⟩ := box7f xb
  clear b xb hw xb2 ON XB1 RB1 HA1 B1 HX1 H1 hs1
  go_upto_region 3 with fail
  rw [HW.out]
  clear HW c0 c1 c2 c3 c4 c5 c6 f0 f1 f2 f3 f4 f5 f6 w2
  obtain ⟨c0, c1, c2, c3, c4, c5, c6⟩ := box7 XB3.out
  obtain ⟨r0, r1, r2, r3, r4, r5, r6⟩ := box7 RB3.out
  obtain ⟨f0, f1, f2, f3, f4, f5, f6⟩ := box7f RB3.out
  obtain ⟨w4, hw, rb, ON⟩ := store7 RB3.out (.slice c.A c.ls.length c.cap) (.int .i64 c.en) (.int .i64 j) (.slice c.B c.rn c.rc) (.slice C xs.length k) (.int .i64 9) (.int .i64 P)
  obtain ⟨k0, k1', k2', k3', k4', k5', k6'⟩ := box7 rb
  rw [← hw] at k0 k1' k2' k3' k4' k5' k6'
  have HW := Lib.hid hw
  have HX4 := Lib.hid (HX3.out.cellsE ON.size (fun b' hA' h0 o => ON.cell ⟨b', o, none⟩ (by
    obtain ⟨off, rfl⟩ := hA'
    obtain ⟨b2, off2, e, hc⟩ := HX3.out.at (i := 0) (by omega)
    cases e
    exact RB3.out.apart (hc 0 (by omega) 0 _ rfl) (zero_str _))))
  have B4 := Lib.hid (ON.below (Nat.le_succ L) B3.out)
  clear hw rb ON HX3 B3 XB3 RB3
  go_wp2_with fail
  (try simp only [Exit.inBlock, Exit.then])
  refine bodyPost_ret (by simp [results, Tryz.results72, go_sem, k0, k1', k2', k3', k4', k5', k6']; try rfl) rfl ?_
  rw [← HQ.out, HW.out]
  exact ans_bad HE.out (.inr rfl) HC.out HX4.out (by omega) (by rw [HLw.out]; exact B4.out)

set_option maxHeartbeats 6400000 in
set_option maxRecDepth 100000 in
theorem factor_neg {c : Cfg} {N : Nat} (hl : c.ls.length ≤ 1000) (IF : FactorC c N) {d j : Nat} {xs : List Ex} {C : Option Addr} {k : Nat} {w : World} (hN : 10 * (c.ls.length - j) + 4 < N + 1) (hj : j ≤ c.ls.length) (hd : d ≤ 20) (hA : SlT w c.A c.ls.length c.ls) (hX : SlE c.N w C xs.length xs) (hC : C = none → k = 0)
    (hB : xs.length + (c.ls.length - j) + 5 * (22 - d) ≤ 5000) (ht : PTree.textOf (c.ls.drop j) = [45]) :
    Calls Tryz.prog 72 #[sv c C xs.length k j 0 c.pl, .int .i64 d] w (Ans c xs (xs.length + (c.ls.length - j) + 5 * (22 - d)) (PTree.ex c.en .factor d (c.ls.drop j)) w) := by
  have hlt := drop_pos ht (List.cons_ne_nil _ _)
  have H1 := Lib.hid (fun (w : World) (h : SlT w c.A c.ls.length c.ls) => r8text_any (cap := c.cap) (B := c.B) (C := C) (rn := c.rn) (rc := c.rc) (xn := xs.length) (xc := k) (en := c.en) (er := 0) (pl := c.pl) h hj)
  rw [ht] at H1
  have HT := Lib.hid ht
  have HA := Lib.hid hA
  have HX := Lib.hid hX
  have HC := Lib.hid hC
  have HN := Lib.hid hN
  have HB := Lib.hid hB
  have g20 : ¬ (20 : Int) < (d : Int) := by omega
  have hl2 : (j : Int) < 1000 := by omega
  obtain ⟨D, hD⟩ : ∃ D, D = d + 1 := ⟨_, rfl⟩
  have gD : (d : Int) + 1 = (D : Int) := by omega
  obtain ⟨J, hJ⟩ : ∃ J, J = j + 1 := ⟨_, rfl⟩
  have gJ : (j : Int) + 1 = (J : Int) := by omega
  have DD := Lib.hid hD
  have JJ := Lib.hid hJ
  have HLT := Lib.hid hlt
  have HJ := Lib.hid hj
  have HLN := Lib.hid hl
  have HD := Lib.hid hd
  clear hA hX hC hN ht hD hJ hlt hj hl hd hB
  obtain ⟨Q, hQ⟩ : ∃ Q, Ans c xs (xs.length + (c.ls.length - j) + 5 * (22 - d)) (PTree.ex c.en .factor d (c.ls.drop j)) w = Q := ⟨_, rfl⟩
  rw [hQ]
  have HQ := Lib.hid hQ
  clear hQ
  unfold sv stV
  unfold stV at H1
  go_enter Tryz.func72, Tryz.ntmps72
  go_upto_region 5 with fail
  obtain ⟨w1, hw1, XB, RB, b1, hs1⟩ := enter2 w 68 68 (sc c C xs.length k j 0 c.pl) zeroC
  unfold sc stC at hw1; unfold zeroC at hw1
  rw [hw1]
  obtain ⟨L, hL⟩ : ∃ L, w.heap.size = L := ⟨_, rfl⟩
  have HX1 := Lib.hid (HX.out.on b1)
  have HA1 := Lib.hid (HA.out.on b1)
  rw [hL] at XB RB hs1 b1 ⊢
  have XB1 := Lib.hid XB; have RB1 := Lib.hid RB; have B1 := Lib.hid b1; have HLw := Lib.hid hL
  clear hw1 hL b1 XB RB HX HA
  obtain ⟨c0, c1, c2, c3, c4, c5, c6⟩ := box7 XB1.out
  go_wp2_with fail
  refine (H1.out _ HA1.out).mono ?_
  rintro _ w2 ⟨rfl, b⟩
  have XB2 := Lib.hid (XB1.out.on b); have RB2 := Lib.hid (RB1.out.on b); have HA2 := Lib.hid (HA1.out.on b); have HX2 := Lib.hid (HX1.out.on b)
  have B2 := Lib.hid (B1.out.trans (b.mono (by omega)))
  clear b c0 c1 c2 c3 c4 c5 c6 XB1 RB1 HA1 HX1 B1 H1 hs1
  obtain ⟨c0, c1, c2, c3, c4, c5, c6⟩ := box7 XB2.out
  obtain ⟨f0, f1, f2, f3, f4, f5, f6⟩ := box7f XB2.out
  go_upto_region 8 with fail
  obtain ⟨w3, hw3⟩ : ∃ w3, w2.setCell ⟨L, 2, none⟩ (.int .i64 J) = w3 := ⟨_, rfl⟩
  have ON : Only L w2 w3 := by rw [← hw3]; exact (Only.refl L w2).set 2 _
  have XB3 : Hid (Box w3 L (sc c C xs.length k J 0 c.pl)) := Lib.hid (by rw [← hw3]; exact XB2.out.set 2 (by simp [sc, stC]) _)
  have RB3 := Lib.hid (RB2.out.only ON (by omega))
  have RS0 := Lib.hid ((rs_start (c := c) (j := J) HC.out HX2.out (by have := JJ.out; have := HLT.out; omega) (Nat.le_refl _)).only XB2.out (sc_str _ _ _ _ _ _ _) ON)
  have HA3 := Lib.hid (HA2.out.only XB2.out (sc_str _ _ _ _ _ _ _) ON)
  have B3 := Lib.hid (ON.below (Nat.le_refl _) B2.out)
  rw [hw3]
  clear hw3 ON XB2 RB2 HA2 HX2 B2 c0 c1 c2 c3 c4 c5 c6 f0 f1 f2 f3 f4 f5 f6
  obtain ⟨R0, hR0⟩ : ∃ r : Option (R Unit), r = some (.ok (c.ls.drop J) ()) := ⟨_, rfl⟩
  have FX0 : Hid (Fx R0 (fun _ => xs) (c.ls.length - j) (xs.length + (c.ls.length - j))) := Lib.hid (by
    intro ts b e
    rw [hR0] at e; cases e
    have := JJ.out; have := HLT.out
    rw [List.length_drop]
    show _ ∧ xs.length + _ + 1 ≤ _
    omega)
  have HR0 := Lib.hid hR0
  rw [← hR0] at RS0
  obtain ⟨X0, hX0⟩ : ∃ X : Unit → List Ex, X = fun _ => xs := ⟨_, rfl⟩
  rw [← hX0] at RS0 FX0
  have HX0 := Lib.hid hX0
  clear hR0 hX0
  have RS0' := Lib.hid (RS0.out.less (bd' := xs.length + (c.ls.length - j) + 5 * (22 - d) - 1) (by have := HD.out; omega))
  clear RS0
  have IF := Lib.hid IF
  obtain ⟨c0, c1, c2, c3, c4, c5, c6⟩ := box7 XB3.out
  go_wp2_with fail
  refine (bind_factor (D := D) (M := c.ls.length - j) (K := xs.length + (c.ls.length - j)) IF.out (by have := DD.out; have := HD.out; omega) RS0'.out FX0.out HA3.out (by have := HN.out; omega) (by have := DD.out; have := HD.out; omega) (by have := HB.out; omega)).mono ?_
  rintro _ w4 ⟨C1, n1, k1, i1, er1, p1, a1, rfl, hR, ha, b⟩
  unfold sv stV
  have AI1 := Lib.hid ha
  have RB4 := Lib.hid (RB3.out.on b); have HA4 := Lib.hid (HA3.out.on b)
  have FX1 := Lib.hid (FX0.out.part (en := c.en) (m := .factor) (D := D) rfl)
  have B4 := Lib.hid (B3.out.trans (b.mono (Nat.le_trans (Nat.le_succ _) (Nat.le_of_lt RB3.out.1))))
  have hRb := Lib.hid hR
  clear hR ha b RS0' RB3 HA3 B3
  (try clear c0 c1 c2 c3 c4 c5 c6)
  go_upto_region 9 with fail
  obtain ⟨w5, hw⟩ : ∃ w', w4.alloc (.cells (sc c C1 n1 k1 i1 er1 p1).toArray 68) = w' := ⟨_, rfl⟩
  have al : Below w4.heap.size w4 w5 := by rw [← hw]; exact (Below.refl _ _).alloc (Nat.le_refl _) _
  have YB : Box w5 w4.heap.size (sc c C1 n1 k1 i1 er1 p1) := by rw [← hw]; exact Box.new _ _ _
  have RB5 := Lib.hid (RB4.out.on al); have HA5 := Lib.hid (HA4.out.on al); have RS1 := Lib.hid (hRb.out.on al)
  have B5 := Lib.hid (B4.out.trans (al.mono (Nat.le_trans (Nat.le_succ _) (Nat.le_of_lt RB4.out.1))))
  unfold sc stC at hw
  rw [hw]
  obtain ⟨Y1, hY⟩ : ∃ Y, w4.heap.size = Y := ⟨_, rfl⟩
  rw [hY] at YB ⊢
  obtain ⟨c0, c1, c2, c3, c4, c5, c6⟩ := box7 YB
  clear hw al YB hY hRb RB4 HA4 B4
  go_wp2_with fail
  refine (r8put RS1.out (by have := HB.out; omega) ⟨[110, 101, 103], [], 0, a1, 0, 0⟩).mono ?_
  rintro _ w6 ⟨CP, nP, kP, rfl, rfl, hR, b⟩
  unfold sv stV
  have RB6 := Lib.hid (RB5.out.on b)
  have RSP := Lib.hid hR
  have B6 := Lib.hid (B5.out.trans (b.mono (Nat.le_trans (Nat.le_succ _) (Nat.le_of_lt RB5.out.1))))
  clear hR b RB5 HA5 B5 RS1
  (try clear c0 c1 c2 c3 c4 c5 c6)
  obtain ⟨r0, r1, r2, r3, r4, r5, r6⟩ := box7 RB6.out
  obtain ⟨f0, f1, f2, f3, f4, f5, f6⟩ := box7f RB6.out
  obtain ⟨wz, hw, rb, ON⟩ := store7 RB6.out (.slice c.A c.ls.length c.cap) (.int .i64 c.en) (.int .i64 i1) (.slice c.B c.rn c.rc) (.slice CP (n1 + 1) kP) (.int .i64 er1) (.int .i64 p1)
  obtain ⟨k0', k1', k2', k3', k4', k5', k6'⟩ := box7 rb
  rw [← hw] at k0' k1' k2' k3' k4' k5' k6'
  have HW := Lib.hid hw
  have RSZ := Lib.hid (RSP.out.only RB6.out zero_str ON)
  have BZ := Lib.hid (ON.below (Nat.le_succ L) B6.out)
  clear hw rb ON RSP B6
  go_wp2_with fail
  (try simp only [Exit.inBlock, Exit.then])
  refine bodyPost_ret (by simp [results, Tryz.results72, go_sem, k0', k1', k2', k3', k4', k5', k6']; try rfl) rfl ?_
  rw [← HQ.out, HW.out]
  have hR0 := HR0.out
  have hX0 := HX0.out
  have hE : PTree.ex c.en .factor d (c.ls.drop j) = R.next (Nx c.en .factor D R0) fun ts q => some (.ok ts (Tr.neg q.2)) := by
    rw [PTree.ex_eq]
    simp only [PTree.body]
    rw [if_neg (by have := HD.out; omega), if_pos HT.out, List.tail_drop, ← JJ.out, ← DD.out]
    simp only [Nx, hR0, next_assoc, next_some]
  have RSD := RSZ.out.done (X' := fun t => xs ++ t.flat xs.length) (g := fun q => Tr.neg q.2) hE (fun ts q hb => by
    obtain ⟨t5, q4, e4, e5⟩ := next_ok hb
    obtain ⟨t6, x3, e6, e7⟩ := next_ok e5
    cases e7
    have i5 := AI1.out _ _ _ hb
    simp only [XN, hX0] at i5 ⊢
    subst i5
    simp only [Tr.flat, List.append_assoc])
  refine ⟨CP, n1 + 1, kP, i1, er1, p1, n1, rfl, RSD.less (by have := HD.out; omega), fun ts t e => ?_, by rw [HLw.out]; exact BZ.out⟩
  have := RSD.len e
  simp only [List.length_append, Tr.flat_len] at this
  have := t.size_pos
  omega
set_option maxHeartbeats 6400000 in
set_option maxRecDepth 100000 in
theorem factor_par {c : Cfg} {N : Nat} (hl : c.ls.length ≤ 1000) (IW : WholeC c N) {d j : Nat} {xs : List Ex} {C : Option Addr} {k : Nat} {w : World} (hN : 10 * (c.ls.length - j) + 4 < N + 1) (hj : j ≤ c.ls.length) (hd : d ≤ 20) (hA : SlT w c.A c.ls.length c.ls) (hX : SlE c.N w C xs.length xs) (hC : C = none → k = 0)
    (hB : xs.length + (c.ls.length - j) + 5 * (22 - d) ≤ 5000) (ht : PTree.textOf (c.ls.drop j) = [40]) :
    Calls Tryz.prog 72 #[sv c C xs.length k j 0 c.pl, .int .i64 d] w (Ans c xs (xs.length + (c.ls.length - j) + 5 * (22 - d)) (PTree.ex c.en .factor d (c.ls.drop j)) w) := by
  have hlt := drop_pos ht (List.cons_ne_nil _ _)
  have H1 := Lib.hid (fun (w : World) (h : SlT w c.A c.ls.length c.ls) => r8text_any (cap := c.cap) (B := c.B) (C := C) (rn := c.rn) (rc := c.rc) (xn := xs.length) (xc := k) (en := c.en) (er := 0) (pl := c.pl) h hj)
  rw [ht] at H1
  have HT := Lib.hid ht
  have HA := Lib.hid hA
  have HX := Lib.hid hX
  have HC := Lib.hid hC
  have HN := Lib.hid hN
  have HB := Lib.hid hB
  have g20 : ¬ (20 : Int) < (d : Int) := by omega
  have hl2 : (j : Int) < 1000 := by omega
  obtain ⟨D, hD⟩ : ∃ D, D = d + 1 := ⟨_, rfl⟩
  have gD : (d : Int) + 1 = (D : Int) := by omega
  obtain ⟨J, hJ⟩ : ∃ J, J = j + 1 := ⟨_, rfl⟩
  have gJ : (j : Int) + 1 = (J : Int) := by omega
  have DD := Lib.hid hD
  have JJ := Lib.hid hJ
  have HLT := Lib.hid hlt
  have HJ := Lib.hid hj
  have HLN := Lib.hid hl
  have HD := Lib.hid hd
  clear hA hX hC hN ht hD hJ hlt hj hl hd hB
  obtain ⟨Q, hQ⟩ : ∃ Q, Ans c xs (xs.length + (c.ls.length - j) + 5 * (22 - d)) (PTree.ex c.en .factor d (c.ls.drop j)) w = Q := ⟨_, rfl⟩
  rw [hQ]
  have HQ := Lib.hid hQ
  clear hQ
  unfold sv stV
  unfold stV at H1
  go_enter Tryz.func72, Tryz.ntmps72
  go_upto_region 5 with fail
  obtain ⟨w1, hw1, XB, RB, b1, hs1⟩ := enter2 w 68 68 (sc c C xs.length k j 0 c.pl) zeroC
  unfold sc stC at hw1; unfold zeroC at hw1
  rw [hw1]
  obtain ⟨L, hL⟩ : ∃ L, w.heap.size = L := ⟨_, rfl⟩
  have HX1 := Lib.hid (HX.out.on b1)
  have HA1 := Lib.hid (HA.out.on b1)
  rw [hL] at XB RB hs1 b1 ⊢
  have XB1 := Lib.hid XB; have RB1 := Lib.hid RB; have B1 := Lib.hid b1; have HLw := Lib.hid hL
  clear hw1 hL b1 XB RB HX HA
  obtain ⟨c0, c1, c2, c3, c4, c5, c6⟩ := box7 XB1.out
  go_wp2_with fail
  refine (H1.out _ HA1.out).mono ?_
  rintro _ w2 ⟨rfl, b⟩
  have XB2 := Lib.hid (XB1.out.on b); have RB2 := Lib.hid (RB1.out.on b); have HA2 := Lib.hid (HA1.out.on b); have HX2 := Lib.hid (HX1.out.on b)
  have B2 := Lib.hid (B1.out.trans (b.mono (by omega)))
  clear b c0 c1 c2 c3 c4 c5 c6 XB1 RB1 HA1 HX1 B1 H1 hs1
  obtain ⟨c0, c1, c2, c3, c4, c5, c6⟩ := box7 XB2.out
  obtain ⟨f0, f1, f2, f3, f4, f5, f6⟩ := box7f XB2.out
  go_upto_region 12 with fail
  obtain ⟨w3, hw3⟩ : ∃ w3, w2.setCell ⟨L, 2, none⟩ (.int .i64 J) = w3 := ⟨_, rfl⟩
  have ON : Only L w2 w3 := by rw [← hw3]; exact (Only.refl L w2).set 2 _
  have XB3 : Hid (Box w3 L (sc c C xs.length k J 0 c.pl)) := Lib.hid (by rw [← hw3]; exact XB2.out.set 2 (by simp [sc, stC]) _)
  have RB3 := Lib.hid (RB2.out.only ON (by omega))
  have RS0 := Lib.hid ((rs_start (c := c) (j := J) HC.out HX2.out (by have := JJ.out; have := HLT.out; omega) (Nat.le_refl _)).only XB2.out (sc_str _ _ _ _ _ _ _) ON)
  have HA3 := Lib.hid (HA2.out.only XB2.out (sc_str _ _ _ _ _ _ _) ON)
  have B3 := Lib.hid (ON.below (Nat.le_refl _) B2.out)
  rw [hw3]
  clear hw3 ON XB2 RB2 HA2 HX2 B2 c0 c1 c2 c3 c4 c5 c6 f0 f1 f2 f3 f4 f5 f6
  obtain ⟨R0, hR0⟩ : ∃ r : Option (R Unit), r = some (.ok (c.ls.drop J) ()) := ⟨_, rfl⟩
  have FX0 : Hid (Fx R0 (fun _ => xs) (c.ls.length - j) (xs.length + (c.ls.length - j))) := Lib.hid (by
    intro ts b e
    rw [hR0] at e; cases e
    have := JJ.out; have := HLT.out
    rw [List.length_drop]
    show _ ∧ xs.length + _ + 1 ≤ _
    omega)
  have HR0 := Lib.hid hR0
  rw [← hR0] at RS0
  obtain ⟨X0, hX0⟩ : ∃ X : Unit → List Ex, X = fun _ => xs := ⟨_, rfl⟩
  rw [← hX0] at RS0 FX0
  have HX0 := Lib.hid hX0
  clear hR0 hX0
  have RS0' := Lib.hid (RS0.out.less (bd' := xs.length + (c.ls.length - j) + 5 * (22 - d) - 1) (by have := HD.out; omega))
  clear RS0
  have IW := Lib.hid IW
  obtain ⟨c0, c1, c2, c3, c4, c5, c6⟩ := box7 XB3.out
  go_wp2_with fail
  refine (bind_whole (D := D) (M := c.ls.length - j) (K := xs.length + (c.ls.length - j)) IW.out (by have := DD.out; have := HD.out; omega) RS0'.out FX0.out HA3.out (by have := HN.out; omega) (by have := DD.out; have := HD.out; omega) (by have := HB.out; omega)).mono ?_
  rintro _ w4 ⟨C1, n1, k1, i1, er1, p1, a1, rfl, hR, ha, b⟩
  unfold sv stV
  have AI1 := Lib.hid ha
  have RB4 := Lib.hid (RB3.out.on b); have HA4 := Lib.hid (HA3.out.on b)
  have FX1 := Lib.hid (FX0.out.part (en := c.en) (m := .whole) (D := D) rfl)
  have B4 := Lib.hid (B3.out.trans (b.mono (Nat.le_trans (Nat.le_succ _) (Nat.le_of_lt RB3.out.1))))
  have hRb := Lib.hid hR
  clear hR ha b RS0' RB3 HA3 B3
  (try clear c0 c1 c2 c3 c4 c5 c6)
  go_upto_region 13 with fail
  obtain ⟨w5, hw⟩ : ∃ w', w4.alloc (.cells (sc c C1 n1 k1 i1 er1 p1).toArray 68) = w' := ⟨_, rfl⟩
  have al : Below w4.heap.size w4 w5 := by rw [← hw]; exact (Below.refl _ _).alloc (Nat.le_refl _) _
  have YB : Box w5 w4.heap.size (sc c C1 n1 k1 i1 er1 p1) := by rw [← hw]; exact Box.new _ _ _
  have RB5 := Lib.hid (RB4.out.on al); have HA5 := Lib.hid (HA4.out.on al); have RS1 := Lib.hid (hRb.out.on al)
  have B5 := Lib.hid (B4.out.trans (al.mono (Nat.le_trans (Nat.le_succ _) (Nat.le_of_lt RB4.out.1))))
  unfold sc stC at hw
  rw [hw]
  obtain ⟨Y1, hY⟩ : ∃ Y, w4.heap.size = Y := ⟨_, rfl⟩
  rw [hY] at YB ⊢
  obtain ⟨c0, c1, c2, c3, c4, c5, c6⟩ := box7 YB
  clear hw al YB hY hRb RB4 HA4 B4
  go_wp2_with fail
  refine (bind_must RS1.out HA5.out HLN.out { data := #[41] } (by simp)).mono ?_
  rintro _ w6 ⟨C2, n2, k2, i2, er2, p2, rfl, hR, b⟩
  unfold sv stV
  have RB6 := Lib.hid (RB5.out.on b); have HA6 := Lib.hid (HA5.out.on b)
  have RS2 := Lib.hid hR
  have FX2 := Lib.hid (FX1.out.word (en := c.en) (s := ({ data := #[41] } : ByteArray).data.toList) (by simp))
  have B6 := Lib.hid (B5.out.trans (b.mono (Nat.le_trans (Nat.le_succ _) (Nat.le_of_lt RB5.out.1))))
  clear hR b c0 c1 c2 c3 c4 c5 c6 RB5 HA5 B5 RS1
  obtain ⟨r0, r1, r2, r3, r4, r5, r6⟩ := box7 RB6.out
  obtain ⟨f0, f1, f2, f3, f4, f5, f6⟩ := box7f RB6.out
  obtain ⟨wz, hw, rb, ON⟩ := store7 RB6.out (.slice c.A c.ls.length c.cap) (.int .i64 c.en) (.int .i64 i2) (.slice c.B c.rn c.rc) (.slice C2 n2 k2) (.int .i64 er2) (.int .i64 p2)
  obtain ⟨k0', k1', k2', k3', k4', k5', k6'⟩ := box7 rb
  rw [← hw] at k0' k1' k2' k3' k4' k5' k6'
  have HW := Lib.hid hw
  have RSZ := Lib.hid (RS2.out.only RB6.out zero_str ON)
  have BZ := Lib.hid (ON.below (Nat.le_succ L) B6.out)
  clear hw rb ON RS2 B6
  go_wp2_with fail
  (try simp only [Exit.inBlock, Exit.then])
  refine bodyPost_ret (by simp [results, Tryz.results72, go_sem, k0', k1', k2', k3', k4', k5', k6']; try rfl) rfl ?_
  rw [← HQ.out, HW.out]
  have hR0 := HR0.out
  have hX0 := HX0.out
  have hE : PTree.ex c.en .factor d (c.ls.drop j) = R.next (Mx c.en [41] (Nx c.en .whole D R0)) fun ts q => some (.ok ts q.2) := by
    rw [PTree.ex_eq]
    simp only [PTree.body]
    rw [if_neg (by have := HD.out; omega), if_neg (by rw [HT.out]; decide), if_pos HT.out, List.tail_drop, ← JJ.out, ← DD.out]
    simp only [Nx, Mx, hR0, next_assoc, next_some]
  have hI : ∀ ts q, Mx c.en [41] (Nx c.en .whole D R0) = some (.ok ts q) → a1 = xs.length + q.2.size - 1 := fun ts q e => by
    obtain ⟨t5, q4, e4, e5⟩ := next_ok e
    obtain ⟨t6, x3, e6, e7⟩ := next_ok e5
    cases e7
    have := AI1.out _ _ _ e4
    rw [hX0] at this; exact this
  have RSD := RSZ.out.done (X' := fun t => xs ++ t.flat xs.length) (g := fun q => q.2) hE (fun ts q hb => by simp only [XN, hX0])
  refine ⟨C2, n2, k2, i2, er2, p2, a1, rfl, RSD.less (by have := HD.out; omega), fun ts t e => ?_, by rw [HLw.out]; exact BZ.out⟩
  rw [hE] at e
  obtain ⟨t5, q4, e4, e5⟩ := next_ok e
  cases e5
  exact hI _ _ e4
set_option maxHeartbeats 6400000 in
set_option maxRecDepth 100000 in
theorem factor_min {c : Cfg} {N : Nat} (hl : c.ls.length ≤ 1000) (IW : WholeC c N) {d j : Nat} {xs : List Ex} {C : Option Addr} {k : Nat} {w : World} (hN : 10 * (c.ls.length - j) + 4 < N + 1) (hj : j ≤ c.ls.length) (hd : d ≤ 20) (hA : SlT w c.A c.ls.length c.ls) (hX : SlE c.N w C xs.length xs) (hC : C = none → k = 0)
    (hB : xs.length + (c.ls.length - j) + 5 * (22 - d) ≤ 5000) (ht : PTree.textOf (c.ls.drop j) = [109, 105, 110]) :
    Calls Tryz.prog 72 #[sv c C xs.length k j 0 c.pl, .int .i64 d] w (Ans c xs (xs.length + (c.ls.length - j) + 5 * (22 - d)) (PTree.ex c.en .factor d (c.ls.drop j)) w) := by
  have hlt := drop_pos ht (List.cons_ne_nil _ _)
  have H1 := Lib.hid (fun (w : World) (h : SlT w c.A c.ls.length c.ls) => r8text_any (cap := c.cap) (B := c.B) (C := C) (rn := c.rn) (rc := c.rc) (xn := xs.length) (xc := k) (en := c.en) (er := 0) (pl := c.pl) h hj)
  rw [ht] at H1
  have HT := Lib.hid ht
  have HA := Lib.hid hA
  have HX := Lib.hid hX
  have HC := Lib.hid hC
  have HN := Lib.hid hN
  have HB := Lib.hid hB
  have g20 : ¬ (20 : Int) < (d : Int) := by omega
  have hl2 : (j : Int) < 1000 := by omega
  obtain ⟨D, hD⟩ : ∃ D, D = d + 1 := ⟨_, rfl⟩
  have gD : (d : Int) + 1 = (D : Int) := by omega
  obtain ⟨J, hJ⟩ : ∃ J, J = j + 1 := ⟨_, rfl⟩
  have gJ : (j : Int) + 1 = (J : Int) := by omega
  have DD := Lib.hid hD
  have JJ := Lib.hid hJ
  have HLT := Lib.hid hlt
  have HJ := Lib.hid hj
  have HLN := Lib.hid hl
  have HD := Lib.hid hd
  clear hA hX hC hN ht hD hJ hlt hj hl hd hB
  obtain ⟨Q, hQ⟩ : ∃ Q, Ans c xs (xs.length + (c.ls.length - j) + 5 * (22 - d)) (PTree.ex c.en .factor d (c.ls.drop j)) w = Q := ⟨_, rfl⟩
  rw [hQ]
  have HQ := Lib.hid hQ
  clear hQ
  unfold sv stV
  unfold stV at H1
  go_enter Tryz.func72, Tryz.ntmps72
  go_upto_region 5 with fail
  obtain ⟨w1, hw1, XB, RB, b1, hs1⟩ := enter2 w 68 68 (sc c C xs.length k j 0 c.pl) zeroC
  unfold sc stC at hw1; unfold zeroC at hw1
  rw [hw1]
  obtain ⟨L, hL⟩ : ∃ L, w.heap.size = L := ⟨_, rfl⟩
  have HX1 := Lib.hid (HX.out.on b1)
  have HA1 := Lib.hid (HA.out.on b1)
  rw [hL] at XB RB hs1 b1 ⊢
  have XB1 := Lib.hid XB; have RB1 := Lib.hid RB; have B1 := Lib.hid b1; have HLw := Lib.hid hL
  clear hw1 hL b1 XB RB HX HA
  obtain ⟨c0, c1, c2, c3, c4, c5, c6⟩ := box7 XB1.out
  go_wp2_with fail
  refine (H1.out _ HA1.out).mono ?_
  rintro _ w2 ⟨rfl, b⟩
  have XB2 := Lib.hid (XB1.out.on b); have RB2 := Lib.hid (RB1.out.on b); have HA2 := Lib.hid (HA1.out.on b); have HX2 := Lib.hid (HX1.out.on b)
  have B2 := Lib.hid (B1.out.trans (b.mono (by omega)))
  clear b c0 c1 c2 c3 c4 c5 c6 XB1 RB1 HA1 HX1 B1 H1 hs1
  obtain ⟨c0, c1, c2, c3, c4, c5, c6⟩ := box7 XB2.out
  obtain ⟨f0, f1, f2, f3, f4, f5, f6⟩ := box7f XB2.out
  go_upto_region 16 with fail
  obtain ⟨w3, hw3⟩ : ∃ w3, w2.setCell ⟨L, 2, none⟩ (.int .i64 J) = w3 := ⟨_, rfl⟩
  have ON : Only L w2 w3 := by rw [← hw3]; exact (Only.refl L w2).set 2 _
  have XB3 : Hid (Box w3 L (sc c C xs.length k J 0 c.pl)) := Lib.hid (by rw [← hw3]; exact XB2.out.set 2 (by simp [sc, stC]) _)
  have RB3 := Lib.hid (RB2.out.only ON (by omega))
  have RS0 := Lib.hid ((rs_start (c := c) (j := J) HC.out HX2.out (by have := JJ.out; have := HLT.out; omega) (Nat.le_refl _)).only XB2.out (sc_str _ _ _ _ _ _ _) ON)
  have HA3 := Lib.hid (HA2.out.only XB2.out (sc_str _ _ _ _ _ _ _) ON)
  have B3 := Lib.hid (ON.below (Nat.le_refl _) B2.out)
  rw [hw3]
  clear hw3 ON XB2 RB2 HA2 HX2 B2 c0 c1 c2 c3 c4 c5 c6 f0 f1 f2 f3 f4 f5 f6
  obtain ⟨R0, hR0⟩ : ∃ r : Option (R Unit), r = some (.ok (c.ls.drop J) ()) := ⟨_, rfl⟩
  have FX0 : Hid (Fx R0 (fun _ => xs) (c.ls.length - j) (xs.length + (c.ls.length - j))) := Lib.hid (by
    intro ts b e
    rw [hR0] at e; cases e
    have := JJ.out; have := HLT.out
    rw [List.length_drop]
    show _ ∧ xs.length + _ + 1 ≤ _
    omega)
  have HR0 := Lib.hid hR0
  rw [← hR0] at RS0
  obtain ⟨X0, hX0⟩ : ∃ X : Unit → List Ex, X = fun _ => xs := ⟨_, rfl⟩
  rw [← hX0] at RS0 FX0
  have HX0 := Lib.hid hX0
  clear hR0 hX0
  have RS0' := Lib.hid (RS0.out.less (bd' := xs.length + (c.ls.length - j) + 5 * (22 - d) - 1) (by have := HD.out; omega))
  clear RS0
  have IW := Lib.hid IW
  obtain ⟨c0, c1, c2, c3, c4, c5, c6⟩ := box7 XB3.out
  go_wp2_with fail
  refine (bind_must RS0'.out HA3.out HLN.out { data := #[40] } (by simp)).mono ?_
  rintro _ w4 ⟨C1, n1, k1, i1, er1, p1, rfl, hR, b⟩
  unfold sv stV
  have RB4 := Lib.hid (RB3.out.on b); have HA4 := Lib.hid (HA3.out.on b)
  have RS1 := Lib.hid hR
  have FX1 := Lib.hid (FX0.out.word (en := c.en) (s := ({ data := #[40] } : ByteArray).data.toList) (by simp))
  have B4 := Lib.hid (B3.out.trans (b.mono (Nat.le_trans (Nat.le_succ _) (Nat.le_of_lt RB3.out.1))))
  clear hR b c0 c1 c2 c3 c4 c5 c6 RB3 HA3 B3 RS0'
  go_wp2_with fail
  refine (bind_whole (D := D) (M := c.ls.length - j) (K := xs.length + (c.ls.length - j)) IW.out (by have := DD.out; have := HD.out; omega) RS1.out FX1.out HA4.out (by have := HN.out; omega) (by have := DD.out; have := HD.out; omega) (by have := HB.out; omega)).mono ?_
  rintro _ w5 ⟨C2, n2, k2, i2, er2, p2, a2, rfl, hR, ha, b⟩
  unfold sv stV
  have AI2 := Lib.hid ha
  have RB5 := Lib.hid (RB4.out.on b); have HA5 := Lib.hid (HA4.out.on b)
  have FX2 := Lib.hid (FX1.out.part (en := c.en) (m := .whole) (D := D) rfl)
  have B5 := Lib.hid (B4.out.trans (b.mono (Nat.le_trans (Nat.le_succ _) (Nat.le_of_lt RB4.out.1))))
  have hRb := Lib.hid hR
  clear hR ha b RS1 RB4 HA4 B4
  (try clear c0 c1 c2 c3 c4 c5 c6)
  go_upto_region 17 with fail
  obtain ⟨w6, hw⟩ : ∃ w', w5.alloc (.cells (sc c C2 n2 k2 i2 er2 p2).toArray 68) = w' := ⟨_, rfl⟩
  have al : Below w5.heap.size w5 w6 := by rw [← hw]; exact (Below.refl _ _).alloc (Nat.le_refl _) _
  have YB : Box w6 w5.heap.size (sc c C2 n2 k2 i2 er2 p2) := by rw [← hw]; exact Box.new _ _ _
  have RB6 := Lib.hid (RB5.out.on al); have HA6 := Lib.hid (HA5.out.on al); have RS2 := Lib.hid (hRb.out.on al)
  have B6 := Lib.hid (B5.out.trans (al.mono (Nat.le_trans (Nat.le_succ _) (Nat.le_of_lt RB5.out.1))))
  unfold sc stC at hw
  rw [hw]
  obtain ⟨Y2, hY⟩ : ∃ Y, w5.heap.size = Y := ⟨_, rfl⟩
  rw [hY] at YB ⊢
  obtain ⟨c0, c1, c2, c3, c4, c5, c6⟩ := box7 YB
  clear hw al YB hY hRb RB5 HA5 B5
  go_wp2_with fail
  refine (bind_must RS2.out HA6.out HLN.out { data := #[44] } (by simp)).mono ?_
  rintro _ w7 ⟨C3, n3, k3, i3, er3, p3, rfl, hR, b⟩
  unfold sv stV
  have RB7 := Lib.hid (RB6.out.on b); have HA7 := Lib.hid (HA6.out.on b)
  have RS3 := Lib.hid hR
  have FX3 := Lib.hid (FX2.out.word (en := c.en) (s := ({ data := #[44] } : ByteArray).data.toList) (by simp))
  have B7 := Lib.hid (B6.out.trans (b.mono (Nat.le_trans (Nat.le_succ _) (Nat.le_of_lt RB6.out.1))))
  clear hR b c0 c1 c2 c3 c4 c5 c6 RB6 HA6 B6 RS2
  go_wp2_with fail
  refine (bind_whole (D := D) (M := c.ls.length - j) (K := xs.length + (c.ls.length - j)) IW.out (by have := DD.out; have := HD.out; omega) RS3.out FX3.out HA7.out (by have := HN.out; omega) (by have := DD.out; have := HD.out; omega) (by have := HB.out; omega)).mono ?_
  rintro _ w8 ⟨C4, n4, k4, i4, er4, p4, a4, rfl, hR, ha, b⟩
  unfold sv stV
  have AI4 := Lib.hid ha
  have RB8 := Lib.hid (RB7.out.on b); have HA8 := Lib.hid (HA7.out.on b)
  have FX4 := Lib.hid (FX3.out.part (en := c.en) (m := .whole) (D := D) rfl)
  have B8 := Lib.hid (B7.out.trans (b.mono (Nat.le_trans (Nat.le_succ _) (Nat.le_of_lt RB7.out.1))))
  have hRb := Lib.hid hR
  clear hR ha b RS3 RB7 HA7 B7
  (try clear c0 c1 c2 c3 c4 c5 c6)
  go_upto_region 18 with fail
  obtain ⟨w9, hw⟩ : ∃ w', w8.alloc (.cells (sc c C4 n4 k4 i4 er4 p4).toArray 68) = w' := ⟨_, rfl⟩
  have al : Below w8.heap.size w8 w9 := by rw [← hw]; exact (Below.refl _ _).alloc (Nat.le_refl _) _
  have YB : Box w9 w8.heap.size (sc c C4 n4 k4 i4 er4 p4) := by rw [← hw]; exact Box.new _ _ _
  have RB9 := Lib.hid (RB8.out.on al); have HA9 := Lib.hid (HA8.out.on al); have RS4 := Lib.hid (hRb.out.on al)
  have B9 := Lib.hid (B8.out.trans (al.mono (Nat.le_trans (Nat.le_succ _) (Nat.le_of_lt RB8.out.1))))
  unfold sc stC at hw
  rw [hw]
  obtain ⟨Y4, hY⟩ : ∃ Y, w8.heap.size = Y := ⟨_, rfl⟩
  rw [hY] at YB ⊢
  obtain ⟨c0, c1, c2, c3, c4, c5, c6⟩ := box7 YB
  clear hw al YB hY hRb RB8 HA8 B8
  go_wp2_with fail
  refine (bind_must RS4.out HA9.out HLN.out { data := #[41] } (by simp)).mono ?_
  rintro _ w10 ⟨C5, n5, k5, i5, er5, p5, rfl, hR, b⟩
  unfold sv stV
  have RB10 := Lib.hid (RB9.out.on b); have HA10 := Lib.hid (HA9.out.on b)
  have RS5 := Lib.hid hR
  have FX5 := Lib.hid (FX4.out.word (en := c.en) (s := ({ data := #[41] } : ByteArray).data.toList) (by simp))
  have B10 := Lib.hid (B9.out.trans (b.mono (Nat.le_trans (Nat.le_succ _) (Nat.le_of_lt RB9.out.1))))
  clear hR b c0 c1 c2 c3 c4 c5 c6 RB9 HA9 B9 RS4
  go_wp2_with fail
  refine (r8put RS5.out (by have := HB.out; omega) ⟨[109, 105, 110], [], 0, a2, a4, 0⟩).mono ?_
  rintro _ w11 ⟨CP, nP, kP, rfl, rfl, hR, b⟩
  unfold sv stV
  have RB11 := Lib.hid (RB10.out.on b)
  have RSP := Lib.hid hR
  have B11 := Lib.hid (B10.out.trans (b.mono (Nat.le_trans (Nat.le_succ _) (Nat.le_of_lt RB10.out.1))))
  clear hR b RB10 HA10 B10 RS5
  (try clear c0 c1 c2 c3 c4 c5 c6)
  obtain ⟨r0, r1, r2, r3, r4, r5, r6⟩ := box7 RB11.out
  obtain ⟨f0, f1, f2, f3, f4, f5, f6⟩ := box7f RB11.out
  obtain ⟨wz, hw, rb, ON⟩ := store7 RB11.out (.slice c.A c.ls.length c.cap) (.int .i64 c.en) (.int .i64 i5) (.slice c.B c.rn c.rc) (.slice CP (n5 + 1) kP) (.int .i64 er5) (.int .i64 p5)
  obtain ⟨k0', k1', k2', k3', k4', k5', k6'⟩ := box7 rb
  rw [← hw] at k0' k1' k2' k3' k4' k5' k6'
  have HW := Lib.hid hw
  have RSZ := Lib.hid (RSP.out.only RB11.out zero_str ON)
  have BZ := Lib.hid (ON.below (Nat.le_succ L) B11.out)
  clear hw rb ON RSP B11
  go_wp2_with fail
  (try simp only [Exit.inBlock, Exit.then])
  refine bodyPost_ret (by simp [results, Tryz.results72, go_sem, k0', k1', k2', k3', k4', k5', k6']; try rfl) rfl ?_
  rw [← HQ.out, HW.out]
  have hR0 := HR0.out
  have hX0 := HX0.out
  have hE : PTree.ex c.en .factor d (c.ls.drop j) = R.next (Mx c.en [41] (Nx c.en .whole D (Mx c.en [44] (Nx c.en .whole D (Mx c.en [40] R0))))) fun ts q => some (.ok ts (Tr.bin [109, 105, 110] q.1.2 q.2)) := by
    rw [PTree.ex_eq]
    simp only [PTree.body]
    rw [if_neg (by have := HD.out; omega), if_neg (by rw [HT.out]; decide), if_neg (by rw [HT.out]; decide), if_pos (by rw [HT.out]; decide), List.tail_drop, ← JJ.out, ← DD.out, HT.out]
    simp only [Nx, Mx, hR0, next_assoc, next_some]
  have RSD := RSZ.out.done (X' := fun t => xs ++ t.flat xs.length) (g := fun q => Tr.bin [109, 105, 110] q.1.2 q.2) hE (fun ts q hb => by
    obtain ⟨t5, q4, e4, e5⟩ := next_ok hb
    obtain ⟨t6, x3, e6, e7⟩ := next_ok e5
    cases e7
    have i5 := AI4.out _ _ _ e4
    obtain ⟨t7, q3, e8, e9⟩ := next_ok e4
    obtain ⟨t8, x5, e10, e11⟩ := next_ok e9
    cases e11
    obtain ⟨t9, q2, e12, e13⟩ := next_ok e8
    obtain ⟨t10, x2, e14, e15⟩ := next_ok e13
    cases e15
    have i3 := AI2.out _ _ _ e12
    obtain ⟨t11, q1, e16, e17⟩ := next_ok e12
    obtain ⟨t12, x6, e18, e19⟩ := next_ok e17
    cases e19
    simp only [XN, hX0, List.length_append, Tr.flat_len] at i3 i5 ⊢
    subst i3 i5
    simp only [Tr.flat, List.append_assoc])
  refine ⟨CP, n5 + 1, kP, i5, er5, p5, n5, rfl, RSD.less (by have := HD.out; omega), fun ts t e => ?_, by rw [HLw.out]; exact BZ.out⟩
  have := RSD.len e
  simp only [List.length_append, Tr.flat_len] at this
  have := t.size_pos
  omega
set_option maxHeartbeats 6400000 in
set_option maxRecDepth 100000 in
theorem factor_max {c : Cfg} {N : Nat} (hl : c.ls.length ≤ 1000) (IW : WholeC c N) {d j : Nat} {xs : List Ex} {C : Option Addr} {k : Nat} {w : World} (hN : 10 * (c.ls.length - j) + 4 < N + 1) (hj : j ≤ c.ls.length) (hd : d ≤ 20) (hA : SlT w c.A c.ls.length c.ls) (hX : SlE c.N w C xs.length xs) (hC : C = none → k = 0)
    (hB : xs.length + (c.ls.length - j) + 5 * (22 - d) ≤ 5000) (ht : PTree.textOf (c.ls.drop j) = [109, 97, 120]) :
    Calls Tryz.prog 72 #[sv c C xs.length k j 0 c.pl, .int .i64 d] w (Ans c xs (xs.length + (c.ls.length - j) + 5 * (22 - d)) (PTree.ex c.en .factor d (c.ls.drop j)) w) := by
  have hlt := drop_pos ht (List.cons_ne_nil _ _)
  have H1 := Lib.hid (fun (w : World) (h : SlT w c.A c.ls.length c.ls) => r8text_any (cap := c.cap) (B := c.B) (C := C) (rn := c.rn) (rc := c.rc) (xn := xs.length) (xc := k) (en := c.en) (er := 0) (pl := c.pl) h hj)
  rw [ht] at H1
  have HT := Lib.hid ht
  have HA := Lib.hid hA
  have HX := Lib.hid hX
  have HC := Lib.hid hC
  have HN := Lib.hid hN
  have HB := Lib.hid hB
  have g20 : ¬ (20 : Int) < (d : Int) := by omega
  have hl2 : (j : Int) < 1000 := by omega
  obtain ⟨D, hD⟩ : ∃ D, D = d + 1 := ⟨_, rfl⟩
  have gD : (d : Int) + 1 = (D : Int) := by omega
  obtain ⟨J, hJ⟩ : ∃ J, J = j + 1 := ⟨_, rfl⟩
  have gJ : (j : Int) + 1 = (J : Int) := by omega
  have DD := Lib.hid hD
  have JJ := Lib.hid hJ
  have HLT := Lib.hid hlt
  have HJ := Lib.hid hj
  have HLN := Lib.hid hl
  have HD := Lib.hid hd
  clear hA hX hC hN ht hD hJ hlt hj hl hd hB
  obtain ⟨Q, hQ⟩ : ∃ Q, Ans c xs (xs.length + (c.ls.length - j) + 5 * (22 - d)) (PTree.ex c.en .factor d (c.ls.drop j)) w = Q := ⟨_, rfl⟩
  rw [hQ]
  have HQ := Lib.hid hQ
  clear hQ
  unfold sv stV
  unfold stV at H1
  go_enter Tryz.func72, Tryz.ntmps72
  go_upto_region 5 with fail
  obtain ⟨w1, hw1, XB, RB, b1, hs1⟩ := enter2 w 68 68 (sc c C xs.length k j 0 c.pl) zeroC
  unfold sc stC at hw1; unfold zeroC at hw1
  rw [hw1]
  obtain ⟨L, hL⟩ : ∃ L, w.heap.size = L := ⟨_, rfl⟩
  have HX1 := Lib.hid (HX.out.on b1)
  have HA1 := Lib.hid (HA.out.on b1)
  rw [hL] at XB RB hs1 b1 ⊢
  have XB1 := Lib.hid XB; have RB1 := Lib.hid RB; have B1 := Lib.hid b1; have HLw := Lib.hid hL
  clear hw1 hL b1 XB RB HX HA
  obtain ⟨c0, c1, c2, c3, c4, c5, c6⟩ := box7 XB1.out
  go_wp2_with fail
  refine (H1.out _ HA1.out).mono ?_
  rintro _ w2 ⟨rfl, b⟩
  have XB2 := Lib.hid (XB1.out.on b); have RB2 := Lib.hid (RB1.out.on b); have HA2 := Lib.hid (HA1.out.on b); have HX2 := Lib.hid (HX1.out.on b)
  have B2 := Lib.hid (B1.out.trans (b.mono (by omega)))
  clear b c0 c1 c2 c3 c4 c5 c6 XB1 RB1 HA1 HX1 B1 H1 hs1
  obtain ⟨c0, c1, c2, c3, c4, c5, c6⟩ := box7 XB2.out
  obtain ⟨f0, f1, f2, f3, f4, f5, f6⟩ := box7f XB2.out
  go_upto_region 16 with fail
  obtain ⟨w3, hw3⟩ : ∃ w3, w2.setCell ⟨L, 2, none⟩ (.int .i64 J) = w3 := ⟨_, rfl⟩
  have ON : Only L w2 w3 := by rw [← hw3]; exact (Only.refl L w2).set 2 _
  have XB3 : Hid (Box w3 L (sc c C xs.length k J 0 c.pl)) := Lib.hid (by rw [← hw3]; exact XB2.out.set 2 (by simp [sc, stC]) _)
  have RB3 := Lib.hid (RB2.out.only ON (by omega))
  have RS0 := Lib.hid ((rs_start (c := c) (j := J) HC.out HX2.out (by have := JJ.out; have := HLT.out; omega) (Nat.le_refl _)).only XB2.out (sc_str _ _ _ _ _ _ _) ON)
  have HA3 := Lib.hid (HA2.out.only XB2.out (sc_str _ _ _ _ _ _ _) ON)
  have B3 := Lib.hid (ON.below (Nat.le_refl _) B2.out)
  rw [hw3]
  clear hw3 ON XB2 RB2 HA2 HX2 B2 c0 c1 c2 c3 c4 c5 c6 f0 f1 f2 f3 f4 f5 f6
  obtain ⟨R0, hR0⟩ : ∃ r : Option (R Unit), r = some (.ok (c.ls.drop J) ()) := ⟨_, rfl⟩
  have FX0 : Hid (Fx R0 (fun _ => xs) (c.ls.length - j) (xs.length + (c.ls.length - j))) := Lib.hid (by
    intro ts b e
    rw [hR0] at e; cases e
    have := JJ.out; have := HLT.out
    rw [List.length_drop]
    show _ ∧ xs.length + _ + 1 ≤ _
    omega)
  have HR0 := Lib.hid hR0
  rw [← hR0] at RS0
  obtain ⟨X0, hX0⟩ : ∃ X : Unit → List Ex, X = fun _ => xs := ⟨_, rfl⟩
  rw [← hX0] at RS0 FX0
  have HX0 := Lib.hid hX0
  clear hR0 hX0
  have RS0' := Lib.hid (RS0.out.less (bd' := xs.length + (c.ls.length - j) + 5 * (22 - d) - 1) (by have := HD.out; omega))
  clear RS0
  have IW := Lib.hid IW
  obtain ⟨c0, c1, c2, c3, c4, c5, c6⟩ := box7 XB3.out
  go_wp2_with fail
  refine (bind_must RS0'.out HA3.out HLN.out { data := #[40] } (by simp)).mono ?_
  rintro _ w4 ⟨C1, n1, k1, i1, er1, p1, rfl, hR, b⟩
  unfold sv stV
  have RB4 := Lib.hid (RB3.out.on b); have HA4 := Lib.hid (HA3.out.on b)
  have RS1 := Lib.hid hR
  have FX1 := Lib.hid (FX0.out.word (en := c.en) (s := ({ data := #[40] } : ByteArray).data.toList) (by simp))
  have B4 := Lib.hid (B3.out.trans (b.mono (Nat.le_trans (Nat.le_succ _) (Nat.le_of_lt RB3.out.1))))
  clear hR b c0 c1 c2 c3 c4 c5 c6 RB3 HA3 B3 RS0'
  go_wp2_with fail
  refine (bind_whole (D := D) (M := c.ls.length - j) (K := xs.length + (c.ls.length - j)) IW.out (by have := DD.out; have := HD.out; omega) RS1.out FX1.out HA4.out (by have := HN.out; omega) (by have := DD.out; have := HD.out; omega) (by have := HB.out; omega)).mono ?_
  rintro _ w5 ⟨C2, n2, k2, i2, er2, p2, a2, rfl, hR, ha, b⟩
  unfold sv stV
  have AI2 := Lib.hid ha
  have RB5 := Lib.hid (RB4.out.on b); have HA5 := Lib.hid (HA4.out.on b)
  have FX2 := Lib.hid (FX1.out.part (en := c.en) (m := .whole) (D := D) rfl)
  have B5 := Lib.hid (B4.out.trans (b.mono (Nat.le_trans (Nat.le_succ _) (Nat.le_of_lt RB4.out.1))))
  have hRb := Lib.hid hR
  clear hR ha b RS1 RB4 HA4 B4
  (try clear c0 c1 c2 c3 c4 c5 c6)
  go_upto_region 17 with fail
  obtain ⟨w6, hw⟩ : ∃ w', w5.alloc (.cells (sc c C2 n2 k2 i2 er2 p2).toArray 68) = w' := ⟨_, rfl⟩
  have al : Below w5.heap.size w5 w6 := by rw [← hw]; exact (Below.refl _ _).alloc (Nat.le_refl _) _
  have YB : Box w6 w5.heap.size (sc c C2 n2 k2 i2 er2 p2) := by rw [← hw]; exact Box.new _ _ _
  have RB6 := Lib.hid (RB5.out.on al); have HA6 := Lib.hid (HA5.out.on al); have RS2 := Lib.hid (hRb.out.on al)
  have B6 := Lib.hid (B5.out.trans (al.mono (Nat.le_trans (Nat.le_succ _) (Nat.le_of_lt RB5.out.1))))
  unfold sc stC at hw
  rw [hw]
  obtain ⟨Y2, hY⟩ : ∃ Y, w5.heap.size = Y := ⟨_, rfl⟩
  rw [hY] at YB ⊢
  obtain ⟨c0, c1, c2, c3, c4, c5, c6⟩ := box7 YB
  clear hw al YB hY hRb RB5 HA5 B5
  go_wp2_with fail
  refine (bind_must RS2.out HA6.out HLN.out { data := #[44] } (by simp)).mono ?_
  rintro _ w7 ⟨C3, n3, k3, i3, er3, p3, rfl, hR, b⟩
  unfold sv stV
  have RB7 := Lib.hid (RB6.out.on b); have HA7 := Lib.hid (HA6.out.on b)
  have RS3 := Lib.hid hR
  have FX3 := Lib.hid (FX2.out.word (en := c.en) (s := ({ data := #[44] } : ByteArray).data.toList) (by simp))
  have B7 := Lib.hid (B6.out.trans (b.mono (Nat.le_trans (Nat.le_succ _) (Nat.le_of_lt RB6.out.1))))
  clear hR b c0 c1 c2 c3 c4 c5 c6 RB6 HA6 B6 RS2
  go_wp2_with fail
  refine (bind_whole (D := D) (M := c.ls.length - j) (K := xs.length + (c.ls.length - j)) IW.out (by have := DD.out; have := HD.out; omega) RS3.out FX3.out HA7.out (by have := HN.out; omega) (by have := DD.out; have := HD.out; omega) (by have := HB.out; omega)).mono ?_
  rintro _ w8 ⟨C4, n4, k4, i4, er4, p4, a4, rfl, hR, ha, b⟩
  unfold sv stV
  have AI4 := Lib.hid ha
  have RB8 := Lib.hid (RB7.out.on b); have HA8 := Lib.hid (HA7.out.on b)
  have FX4 := Lib.hid (FX3.out.part (en := c.en) (m := .whole) (D := D) rfl)
  have B8 := Lib.hid (B7.out.trans (b.mono (Nat.le_trans (Nat.le_succ _) (Nat.le_of_lt RB7.out.1))))
  have hRb := Lib.hid hR
  clear hR ha b RS3 RB7 HA7 B7
  (try clear c0 c1 c2 c3 c4 c5 c6)
  go_upto_region 18 with fail
  obtain ⟨w9, hw⟩ : ∃ w', w8.alloc (.cells (sc c C4 n4 k4 i4 er4 p4).toArray 68) = w' := ⟨_, rfl⟩
  have al : Below w8.heap.size w8 w9 := by rw [← hw]; exact (Below.refl _ _).alloc (Nat.le_refl _) _
  have YB : Box w9 w8.heap.size (sc c C4 n4 k4 i4 er4 p4) := by rw [← hw]; exact Box.new _ _ _
  have RB9 := Lib.hid (RB8.out.on al); have HA9 := Lib.hid (HA8.out.on al); have RS4 := Lib.hid (hRb.out.on al)
  have B9 := Lib.hid (B8.out.trans (al.mono (Nat.le_trans (Nat.le_succ _) (Nat.le_of_lt RB8.out.1))))
  unfold sc stC at hw
  rw [hw]
  obtain ⟨Y4, hY⟩ : ∃ Y, w8.heap.size = Y := ⟨_, rfl⟩
  rw [hY] at YB ⊢
  obtain ⟨c0, c1, c2, c3, c4, c5, c6⟩ := box7 YB
  clear hw al YB hY hRb RB8 HA8 B8
  go_wp2_with fail
  refine (bind_must RS4.out HA9.out HLN.out { data := #[41] } (by simp)).mono ?_
  rintro _ w10 ⟨C5, n5, k5, i5, er5, p5, rfl, hR, b⟩
  unfold sv stV
  have RB10 := Lib.hid (RB9.out.on b); have HA10 := Lib.hid (HA9.out.on b)
  have RS5 := Lib.hid hR
  have FX5 := Lib.hid (FX4.out.word (en := c.en) (s := ({ data := #[41] } : ByteArray).data.toList) (by simp))
  have B10 := Lib.hid (B9.out.trans (b.mono (Nat.le_trans (Nat.le_succ _) (Nat.le_of_lt RB9.out.1))))
  clear hR b c0 c1 c2 c3 c4 c5 c6 RB9 HA9 B9 RS4
  go_wp2_with fail
  refine (r8put RS5.out (by have := HB.out; omega) ⟨[109, 97, 120], [], 0, a2, a4, 0⟩).mono ?_
  rintro _ w11 ⟨CP, nP, kP, rfl, rfl, hR, b⟩
  unfold sv stV
  have RB11 := Lib.hid (RB10.out.on b)
  have RSP := Lib.hid hR
  have B11 := Lib.hid (B10.out.trans (b.mono (Nat.le_trans (Nat.le_succ _) (Nat.le_of_lt RB10.out.1))))
  clear hR b RB10 HA10 B10 RS5
  (try clear c0 c1 c2 c3 c4 c5 c6)
  obtain ⟨r0, r1, r2, r3, r4, r5, r6⟩ := box7 RB11.out
  obtain ⟨f0, f1, f2, f3, f4, f5, f6⟩ := box7f RB11.out
  obtain ⟨wz, hw, rb, ON⟩ := store7 RB11.out (.slice c.A c.ls.length c.cap) (.int .i64 c.en) (.int .i64 i5) (.slice c.B c.rn c.rc) (.slice CP (n5 + 1) kP) (.int .i64 er5) (.int .i64 p5)
  obtain ⟨k0', k1', k2', k3', k4', k5', k6'⟩ := box7 rb
  rw [← hw] at k0' k1' k2' k3' k4' k5' k6'
  have HW := Lib.hid hw
  have RSZ := Lib.hid (RSP.out.only RB11.out zero_str ON)
  have BZ := Lib.hid (ON.below (Nat.le_succ L) B11.out)
  clear hw rb ON RSP B11
  go_wp2_with fail
  (try simp only [Exit.inBlock, Exit.then])
  refine bodyPost_ret (by simp [results, Tryz.results72, go_sem, k0', k1', k2', k3', k4', k5', k6']; try rfl) rfl ?_
  rw [← HQ.out, HW.out]
  have hR0 := HR0.out
  have hX0 := HX0.out
  have hE : PTree.ex c.en .factor d (c.ls.drop j) = R.next (Mx c.en [41] (Nx c.en .whole D (Mx c.en [44] (Nx c.en .whole D (Mx c.en [40] R0))))) fun ts q => some (.ok ts (Tr.bin [109, 97, 120] q.1.2 q.2)) := by
    rw [PTree.ex_eq]
    simp only [PTree.body]
    rw [if_neg (by have := HD.out; omega), if_neg (by rw [HT.out]; decide), if_neg (by rw [HT.out]; decide), if_pos (by rw [HT.out]; decide), List.tail_drop, ← JJ.out, ← DD.out, HT.out]
    simp only [Nx, Mx, hR0, next_assoc, next_some]
  have RSD := RSZ.out.done (X' := fun t => xs ++ t.flat xs.length) (g := fun q => Tr.bin [109, 97, 120] q.1.2 q.2) hE (fun ts q hb => by
    obtain ⟨t5, q4, e4, e5⟩ := next_ok hb
    obtain ⟨t6, x3, e6, e7⟩ := next_ok e5
    cases e7
    have i5 := AI4.out _ _ _ e4
    obtain ⟨t7, q3, e8, e9⟩ := next_ok e4
    obtain ⟨t8, x5, e10, e11⟩ := next_ok e9
    cases e11
    obtain ⟨t9, q2, e12, e13⟩ := next_ok e8
    obtain ⟨t10, x2, e14, e15⟩ := next_ok e13
    cases e15
    have i3 := AI2.out _ _ _ e12
    obtain ⟨t11, q1, e16, e17⟩ := next_ok e12
    obtain ⟨t12, x6, e18, e19⟩ := next_ok e17
    cases e19
    simp only [XN, hX0, List.length_append, Tr.flat_len] at i3 i5 ⊢
    subst i3 i5
    simp only [Tr.flat, List.append_assoc])
  refine ⟨CP, n5 + 1, kP, i5, er5, p5, n5, rfl, RSD.less (by have := HD.out; omega), fun ts t e => ?_, by rw [HLw.out]; exact BZ.out⟩
  have := RSD.len e
  simp only [List.length_append, Tr.flat_len] at this
  have := t.size_pos
  omega
end Go.Proofs.YtdkcdgjpcojdfaaGreatDoor
