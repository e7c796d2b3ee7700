/-
  What the reference of layer 8 answers: a factor of one token, or none.
  What the reference of layer 8 answers: expressions, chains and factors, all of them.
-/
import Derived.Test.YtdkcdgjpcojdfaaGreatDoorR8B
import Derived.Test.YtdkcdgjpcojdfaaGreatDoorBK
import Derived.Test.YtdkcdgjpcojdfaaGreatDoorPM
import Derived.Test.YtdkcdgjpcojdfaaGreatDoorR1

namespace Go.Proofs.YtdkcdgjpcojdfaaGreatDoor
open Go.RowKit
open PTree (R Ex Tr Md)

theorem leaf_ex {c : Cfg} {d j : Nat} (hd : d ≤ 20) (hj : j < c.ls.length) (h1 : PTree.textOf (c.ls.drop j) ≠ [45]) (h2 : PTree.textOf (c.ls.drop j) ≠ [40]) (h3 : PTree.textOf (c.ls.drop j) ≠ [109, 105, 110]) (h4 : PTree.textOf (c.ls.drop j) ≠ [109, 97, 120]) :
    PTree.ex c.en .factor d (c.ls.drop j) = match PTree.leaf c.ls[j] with | none => some (.bad 2 c.ls[j].at_) | some t => some (.ok (c.ls.drop (j + 1)) t) := by
  rw [PTree.ex_eq]
  simp only [PTree.body]
  rw [if_neg (by omega), if_neg h1, if_neg h2, if_neg (by rintro (h | h); exact h3 h; exact h4 h), List.drop_eq_getElem_cons hj]
  cases h : PTree.leaf c.ls[j] with
  | none => simp only [h]
  | some t => simp only [h]
theorem ans_one {c : Cfg} {xs : List Ex} {bd : Nat} {r : Option (R Tr)} {C : Option Addr} {k J : Nat} {y : Ex} {t : Tr} {w w' : World} (hr : r = some (.ok (c.ls.drop J) t)) (hy : t.flat xs.length = [y]) (hs : t.size = 1) (hJ : J ≤ c.ls.length) (hC : C = none → k = 0) (hX : SlE c.N w' C (xs.length + 1) (xs ++ [y])) (hb : xs.length + 1 ≤ bd) (hB : Below w.heap.size w w') :
    Ans c xs bd r w (.returned (.tuple #[sv c C (xs.length + 1) k J 0 c.pl, .int .i64 xs.length])) w' :=
  ⟨C, _, k, J, 0, c.pl, xs.length, rfl, ⟨hC, xs ++ [y], by simp, hX, by simp; omega, by rw [hr]; exact ⟨by show _ = xs ++ t.flat xs.length; rw [hy], rfl, rfl, J, rfl, hJ, rfl⟩⟩, fun ts t' h => (by rw [hr] at h; cases h; omega), hB⟩
theorem slr_only {w w' : World} {N H n : Nat} {vs : List Value} {C : Option Addr} {l : List Ex} (h : SlE N w C n l) (hb : Box w H vs) (hv : ∀ u, Value.string u ∉ vs) (ho : Only H w w') : SlE N w' C n l :=
  h.cellsE ho.size (fun b hA h0 o => ho.cell ⟨b, o, none⟩ (by
    obtain ⟨off, rfl⟩ := hA
    obtain ⟨b2, off2, e, hc⟩ := h.at (i := 0) (by omega)
    cases e
    exact hb.apart (hc 0 (by have := h.1.1; omega) 0 _ rfl) (hv _)))
theorem slr_at {w w' : World} {N H n B : Nat} {C : Option Addr} {l : List Ex} (h : SlE N w C n l) (hB : ∀ b off, C = some ⟨b, off, none⟩ → n ≠ 0 → b < B) (hH : B ≤ H) (ho : Only H w w') : SlE N w' C n l :=
  h.cellsE ho.size (fun b hA h0 o => ho.cell ⟨b, o, none⟩ (by
    obtain ⟨off, rfl⟩ := hA
    have := hB b off rfl h0
    show b ≠ H
    omega))
theorem slr_lt {w : World} {N n : Nat} {C : Option Addr} {l : List Ex} (h : SlE N w C n l) : ∀ b off, C = some ⟨b, off, none⟩ → n ≠ 0 → b < w.heap.size := by
  rintro b off rfl h0
  obtain ⟨b2, off2, e, hc⟩ := h.at (i := 0) (by omega)
  cases e
  exact World.block_lt_of_cell? w _ (hc 0 (by have := h.1.1; omega) 0 _ rfl)
theorem slt_at {w w' : World} {H B : Nat} {A : Option Addr} {l : List PLex.Tok} (h : SlT w A l.length l) (hB : ∀ b off, A = some ⟨b, off, none⟩ → l.length ≠ 0 → b < B) (hH : B ≤ H) (ho : Only H w w') : SlT w' A l.length l := by
  obtain ⟨h1, h2⟩ := h
  refine ⟨h1, ?_⟩
  by_cases h0 : l.length = 0
  · exact .inl h0
  rcases h2 with h2 | ⟨b, off, h3, h4⟩
  · exact .inl h2
  · have hb : b ≠ H := by have := hB b off h3 h0; omega
    exact .inr ⟨b, off, h3, fun i hi => ⟨(ho.cell ⟨b, _, none⟩ hb).trans (h4 i hi).1, (ho.cell ⟨b, _, none⟩ hb).trans (h4 i hi).2.1, (ho.cell ⟨b, _, none⟩ hb).trans (h4 i hi).2.2⟩⟩
theorem slt_lt {w : World} {A : Option Addr} {l : List PLex.Tok} (h : SlT w A l.length l) : ∀ b off, A = some ⟨b, off, none⟩ → l.length ≠ 0 → b < w.heap.size := by
  rintro b off rfl h0
  obtain ⟨b2, off2, e, hc⟩ := h.at (i := 0) (by omega)
  cases e
  exact World.block_lt_of_cell? w _ (hc 0 (by omega)).1

set_option maxHeartbeats 6400000 in
set_option maxRecDepth 100000 in
theorem leaf_taken {c : Cfg} (hl : c.ls.length ≤ 1000) {d j : Nat} {xs : List Ex} {C : Option Addr} {k : Nat} {w : World} {x : PLex.Tok} (hj : j < c.ls.length) (hx : c.ls[j] = x) (hk : x.kind = 1) (htk : x.text ∈ PTree.takenL) (h1 : x.text ≠ [45]) (h2 : x.text ≠ [40]) (h3 : x.text ≠ [109, 105, 110]) (h4 : x.text ≠ [109, 97, 120]) (hd : d ≤ 20) (hA : SlT w c.A c.ls.length c.ls) (hX : SlE c.N w C xs.length xs) (hC : C = none → k = 0)
    (hB : xs.length + (c.ls.length - j) + 5 * (22 - d) ≤ 5000) :
    Calls Tryz.prog 72 #[sv c C xs.length k j 0 c.pl, .int .i64 d] w (Ans c xs (xs.length + (c.ls.length - j) + 5 * (22 - d)) (PTree.ex c.en .factor d (c.ls.drop j)) w) := by
  have H1 := Lib.hid (fun (w : World) (h : SlT w c.A c.ls.length c.ls) => r8text_any (cap := c.cap) (B := c.B) (C := C) (rn := c.rn) (rc := c.rc) (xn := xs.length) (xc := k) (en := c.en) (er := 0) (pl := c.pl) h (Nat.le_of_lt hj))
  have htx : PTree.textOf (c.ls.drop j) = x.text := by rw [textOf_drop hj, hx, if_pos (by omega)]
  have hE := leaf_ex (c := c) hd hj (by rw [htx]; exact h1) (by rw [htx]; exact h2) (by rw [htx]; exact h3) (by rw [htx]; exact h4)
  rw [htx] at H1
  obtain ⟨ob, hob⟩ : ∃ b, ({ data := x.text.toArray } : ByteArray) = b := ⟨_, rfl⟩
  have q1 : (ob.toList == [45]) = false := by rw [beq_eq_false_iff_ne, ByteArray.toList_eq, ← hob]; exact h1
  have q2 : (ob.toList == [40]) = false := by rw [beq_eq_false_iff_ne, ByteArray.toList_eq, ← hob]; exact h2
  have q3 : (ob.toList == [109, 105, 110]) = false := by rw [beq_eq_false_iff_ne, ByteArray.toList_eq, ← hob]; exact h3
  have q4 : (ob.toList == [109, 97, 120]) = false := by rw [beq_eq_false_iff_ne, ByteArray.toList_eq, ← hob]; exact h4
  rw [hob] at H1
  have u1 : ((x.kind : Int) == 1) = true := by rw [hk]; rfl
  have u2 : ((x.kind : Int) == 2) = false := by rw [beq_eq_false_iff_ne]; omega
  have u3 : ((x.kind : Int) == 3) = false := by rw [beq_eq_false_iff_ne]; omega
  have u4 : ((x.kind : Int) == 4) = false := by rw [beq_eq_false_iff_ne]; omega
  rw [hx] at hE
  have hlf : PTree.leaf x = none := by unfold PTree.leaf; rw [if_pos hk, if_pos htk]
  rw [hlf] at hE
  simp only [] at hE
  have TKN := Lib.hid htk
  clear hlf htk h1 h2 h3 h4
  have HK := Lib.hid hk
  clear hk
  have HE := Lib.hid hE
  have HXX := Lib.hid hx
  have HOB := Lib.hid hob
  have HA := Lib.hid hA
  have HX := Lib.hid hX
  have HC := Lib.hid hC
  have HB := Lib.hid hB
  have g20 : ¬ (20 : Int) < (d : Int) := by omega
  have hl2 : (j : Int) < 1000 := by omega
  have gl : (j : Int) < (c.ls.length : Int) := by omega
  obtain ⟨J, hJ⟩ : ∃ J, J = j + 1 := ⟨_, rfl⟩
  have gJ : (j : Int) + 1 = (J : Int) := by omega
  have JJ := Lib.hid hJ
  have HLT := Lib.hid hj
  have HD := Lib.hid hd
  clear hA hX hC hE hx hob htx hJ hl hd hB
  obtain ⟨Q, hQ⟩ : ∃ Q, Ans c xs (xs.length + (c.ls.length - j) + 5 * (22 - d)) (PTree.ex c.en .factor d (c.ls.drop j)) w = Q := ⟨_, rfl⟩
  rw [hQ]
  have HQ := Lib.hid hQ
  clear hQ
  unfold sv stV
  unfold stV at H1
  go_enter Tryz.func72, Tryz.ntmps72
  go_upto_region 5 with fail
  obtain ⟨w1, hw1, XB, RB, b1, hs1⟩ := enter2 w 68 68 (sc c C xs.length k j 0 c.pl) zeroC
  unfold sc stC at hw1; unfold zeroC at hw1
  rw [hw1]
  obtain ⟨L, hL⟩ : ∃ L, w.heap.size = L := ⟨_, rfl⟩
  have HX1 := Lib.hid (HX.out.on b1)
  have HA1 := Lib.hid (HA.out.on b1)
  have LX := Lib.hid (slr_lt HX.out)
  have LA := Lib.hid (slt_lt HA.out)
  rw [hL] at XB RB hs1 b1 LX LA ⊢
  have XB1 := Lib.hid XB; have RB1 := Lib.hid RB; have B1 := Lib.hid b1; have HLw := Lib.hid hL
  clear hw1 hL b1 XB RB HX HA
  obtain ⟨c0, c1, c2, c3, c4, c5, c6⟩ := box7 XB1.out
  go_wp2_with fail
  refine (H1.out _ HA1.out).mono ?_
  rintro _ w2 ⟨rfl, b⟩
  have XB2 := Lib.hid (XB1.out.on b); have RB2 := Lib.hid (RB1.out.on b); have HA2 := Lib.hid (HA1.out.on b); have HX2 := Lib.hid (HX1.out.on b)
  have B2 := Lib.hid (B1.out.trans (b.mono (by omega)))
  clear b c0 c1 c2 c3 c4 c5 c6 XB1 RB1 HA1 HX1 B1 H1 hs1
  obtain ⟨c0, c1, c2, c3, c4, c5, c6⟩ := box7 XB2.out
  obtain ⟨tb, toff, htA, hcs⟩ := HA2.out.at HLT.out
  obtain ⟨t0, t1, t2⟩ := hcs j HLT.out
  rw [HXX.out] at t0 t1 t2
  rw [HOB.out] at t1
  rw [htA]
  rw [htA] at c0
  have hsz := World.block_lt_of_cell? w2 _ t0
  have HTA := Lib.hid htA
  clear hcs htA
  go_upto_region 23 with fail
  obtain ⟨w3, hw3, TB, EB, b3, hs3⟩ := enter2 w2 74 104 [.int .i64 x.kind, .string ob, .int .i64 x.at_] [.string { data := #[110, 97, 109, 101] }, .string ob, .int .i64 0, .int .i64 0, .int .i64 0, .int .i64 0]
  rw [hw3]
  have XB3 := Lib.hid (XB2.out.on b3); have RB3 := Lib.hid (RB2.out.on b3); have HA3 := Lib.hid (HA2.out.on b3); have HX3 := Lib.hid (HX2.out.on b3)
  have hLY : L + 2 ≤ w2.heap.size := by have := RB2.out.1; omega
  obtain ⟨Y, hY⟩ : ∃ Y, w2.heap.size = Y := ⟨_, rfl⟩
  rw [hY] at TB EB b3 hs3 hLY ⊢
  have TB3 := Lib.hid TB; have EB3 := Lib.hid EB
  have B3 := Lib.hid (B2.out.trans (b3.mono (by omega)))
  clear hw3 TB EB b3 hY hsz t0 t1 t2 c0 c1 c2 c3 c4 c5 c6 XB2 RB2 HA2 HX2 B2
  obtain ⟨t0, t1, t2⟩ := box3 TB3.out
  have HTK := Lib.hid (fun (w : World) => r8taken_any ob w)
  have hob2 : ob.data.toList = x.text := by rw [← HOB.out]
  rw [hob2] at HTK
  rw [decide_eq_true TKN.out] at HTK
  go_wp2_with fail
  refine (HTK.out _).mono ?_
  rintro _ w4 ⟨rfl, b⟩
  have XB4 := Lib.hid (XB3.out.on b); have RB4 := Lib.hid (RB3.out.on b); have HA4 := Lib.hid (HA3.out.on b); have HX4 := Lib.hid (HX3.out.on b); have EB4 := Lib.hid (EB3.out.on b)
  have B4 := Lib.hid (B3.out.trans (b.mono (Nat.le_of_lt XB3.out.1)))
  clear b HTK XB3 RB3 HA3 HX3 EB3 TB3 B3 t0 t1 t2 hob2
  obtain ⟨c0, c1, c2, c3, c4, c5, c6⟩ := box7 XB4.out
  rw [HTA.out] at c0
  have HWR := Lib.hid (r8wrong_new (w := w4) (A := some ⟨tb, toff, none⟩) (cap := c.cap) (B := c.B) (C := C) (rn := c.rn) (rc := c.rc) (xn := xs.length) (xc := k) (en := c.en) (e := 2) (pl := c.pl) (HTA.out ▸ HA4.out) (Nat.le_of_lt HLT.out))
  rw [placeOf_drop HLT.out, HXX.out] at HWR
  unfold stV at HWR
  go_wp2_with fail
  refine HWR.out.mono ?_
  rintro _ wa ⟨rfl, b⟩
  have RBa := Lib.hid (RB4.out.on b); have HXa := Lib.hid (HX4.out.on b)
  have Ba := Lib.hid (B4.out.trans (b.mono (Nat.le_of_lt XB4.out.1)))
  clear b HWR c0 c1 c2 c3 c4 c5 c6 XB4 RB4 HA4 HX4 B4
  obtain ⟨r0, r1, r2, r3, r4, r5, r6⟩ := box7 RBa.out
  obtain ⟨f0, f1, f2, f3, f4, f5, f6⟩ := box7f RBa.out
  obtain ⟨wz, hw, rb, ON⟩ := store7 RBa.out (.slice (some ⟨tb, toff, none⟩) c.ls.length c.cap) (.int .i64 c.en) (.int .i64 j) (.slice c.B c.rn c.rc) (.slice C xs.length k) (.int .i64 2) (.int .i64 x.at_)
  obtain ⟨k0', k1', k2', k3', k4', k5', k6'⟩ := box7 rb
  rw [← hw] at k0' k1' k2' k3' k4' k5' k6'
  have HW := Lib.hid hw
  have HXZ := Lib.hid (slr_only HXa.out RBa.out zero_str ON)
  have BZ := Lib.hid (ON.below (Nat.le_succ L) Ba.out)
  clear hw rb ON HXa Ba
  go_wp2_with fail
  (try simp only [Exit.inBlock, Exit.then])
  refine bodyPost_ret (by simp [results, Tryz.results72, go_sem, k0', k1', k2', k3', k4', k5', k6']; try rfl) rfl ?_
  rw [← HQ.out, HW.out, ← HTA.out]
  exact ans_bad HE.out (.inl rfl) HC.out HXZ.out (by omega) (by rw [HLw.out]; exact BZ.out)
set_option maxHeartbeats 6400000 in
set_option maxRecDepth 100000 in
theorem leaf_name {c : Cfg} (hl : c.ls.length ≤ 1000) {d j : Nat} {xs : List Ex} {C : Option Addr} {k : Nat} {w : World} {x : PLex.Tok} (hj : j < c.ls.length) (hx : c.ls[j] = x) (hk : x.kind = 1) (htk : x.text ∉ PTree.takenL) (h1 : x.text ≠ [45]) (h2 : x.text ≠ [40]) (h3 : x.text ≠ [109, 105, 110]) (h4 : x.text ≠ [109, 97, 120]) (hd : d ≤ 20) (hA : SlT w c.A c.ls.length c.ls) (hX : SlE c.N w C xs.length xs) (hC : C = none → k = 0)
    (hB : xs.length + (c.ls.length - j) + 5 * (22 - d) ≤ 5000) :
    Calls Tryz.prog 72 #[sv c C xs.length k j 0 c.pl, .int .i64 d] w (Ans c xs (xs.length + (c.ls.length - j) + 5 * (22 - d)) (PTree.ex c.en .factor d (c.ls.drop j)) w) := by
  have H1 := Lib.hid (fun (w : World) (h : SlT w c.A c.ls.length c.ls) => r8text_any (cap := c.cap) (B := c.B) (C := C) (rn := c.rn) (rc := c.rc) (xn := xs.length) (xc := k) (en := c.en) (er := 0) (pl := c.pl) h (Nat.le_of_lt hj))
  have htx : PTree.textOf (c.ls.drop j) = x.text := by rw [textOf_drop hj, hx, if_pos (by omega)]
  have hE := leaf_ex (c := c) hd hj (by rw [htx]; exact h1) (by rw [htx]; exact h2) (by rw [htx]; exact h3) (by rw [htx]; exact h4)
  rw [htx] at H1
  obtain ⟨ob, hob⟩ : ∃ b, ({ data := x.text.toArray } : ByteArray) = b := ⟨_, rfl⟩
  have q1 : (ob.toList == [45]) = false := by rw [beq_eq_false_iff_ne, ByteArray.toList_eq, ← hob]; exact h1
  have q2 : (ob.toList == [40]) = false := by rw [beq_eq_false_iff_ne, ByteArray.toList_eq, ← hob]; exact h2
  have q3 : (ob.toList == [109, 105, 110]) = false := by rw [beq_eq_false_iff_ne, ByteArray.toList_eq, ← hob]; exact h3
  have q4 : (ob.toList == [109, 97, 120]) = false := by rw [beq_eq_false_iff_ne, ByteArray.toList_eq, ← hob]; exact h4
  rw [hob] at H1
  have u1 : ((x.kind : Int) == 1) = true := by rw [hk]; rfl
  have u2 : ((x.kind : Int) == 2) = false := by rw [beq_eq_false_iff_ne]; omega
  have u3 : ((x.kind : Int) == 3) = false := by rw [beq_eq_false_iff_ne]; omega
  have u4 : ((x.kind : Int) == 4) = false := by rw [beq_eq_false_iff_ne]; omega
  rw [hx] at hE
  have hlf : PTree.leaf x = some (.name x.text) := by unfold PTree.leaf; rw [if_pos hk, if_neg htk]
  rw [hlf] at hE
  simp only [] at hE
  have TKN := Lib.hid htk
  clear hlf htk h1 h2 h3 h4
  have HK := Lib.hid hk
  clear hk
  have HE := Lib.hid hE
  have HXX := Lib.hid hx
  have HOB := Lib.hid hob
  have HA := Lib.hid hA
  have HX := Lib.hid hX
  have HC := Lib.hid hC
  have HB := Lib.hid hB
  have g20 : ¬ (20 : Int) < (d : Int) := by omega
  have hl2 : (j : Int) < 1000 := by omega
  have gl : (j : Int) < (c.ls.length : Int) := by omega
  obtain ⟨J, hJ⟩ : ∃ J, J = j + 1 := ⟨_, rfl⟩
  have gJ : (j : Int) + 1 = (J : Int) := by omega
  have JJ := Lib.hid hJ
  have HLT := Lib.hid hj
  have HD := Lib.hid hd
  clear hA hX hC hE hx hob htx hJ hl hd hB
  obtain ⟨Q, hQ⟩ : ∃ Q, Ans c xs (xs.length + (c.ls.length - j) + 5 * (22 - d)) (PTree.ex c.en .factor d (c.ls.drop j)) w = Q := ⟨_, rfl⟩
  rw [hQ]
  have HQ := Lib.hid hQ
  clear hQ
  unfold sv stV
  unfold stV at H1
  go_enter Tryz.func72, Tryz.ntmps72
  go_upto_region 5 with fail
  obtain ⟨w1, hw1, XB, RB, b1, hs1⟩ := enter2 w 68 68 (sc c C xs.length k j 0 c.pl) zeroC
  unfold sc stC at hw1; unfold zeroC at hw1
  rw [hw1]
  obtain ⟨L, hL⟩ : ∃ L, w.heap.size = L := ⟨_, rfl⟩
  have HX1 := Lib.hid (HX.out.on b1)
  have HA1 := Lib.hid (HA.out.on b1)
  have LX := Lib.hid (slr_lt HX.out)
  have LA := Lib.hid (slt_lt HA.out)
  rw [hL] at XB RB hs1 b1 LX LA ⊢
  have XB1 := Lib.hid XB; have RB1 := Lib.hid RB; have B1 := Lib.hid b1; have HLw := Lib.hid hL
  clear hw1 hL b1 XB RB HX HA
  obtain ⟨c0, c1, c2, c3, c4, c5, c6⟩ := box7 XB1.out
  go_wp2_with fail
  refine (H1.out _ HA1.out).mono ?_
  rintro _ w2 ⟨rfl, b⟩
  have XB2 := Lib.hid (XB1.out.on b); have RB2 := Lib.hid (RB1.out.on b); have HA2 := Lib.hid (HA1.out.on b); have HX2 := Lib.hid (HX1.out.on b)
  have B2 := Lib.hid (B1.out.trans (b.mono (by omega)))
  clear b c0 c1 c2 c3 c4 c5 c6 XB1 RB1 HA1 HX1 B1 H1 hs1
  obtain ⟨c0, c1, c2, c3, c4, c5, c6⟩ := box7 XB2.out
  obtain ⟨tb, toff, htA, hcs⟩ := HA2.out.at HLT.out
  obtain ⟨t0, t1, t2⟩ := hcs j HLT.out
  rw [HXX.out] at t0 t1 t2
  rw [HOB.out] at t1
  rw [htA]
  rw [htA] at c0
  have hsz := World.block_lt_of_cell? w2 _ t0
  have HTA := Lib.hid htA
  clear hcs htA
  go_upto_region 23 with fail
  obtain ⟨w3, hw3, TB, EB, b3, hs3⟩ := enter2 w2 74 104 [.int .i64 x.kind, .string ob, .int .i64 x.at_] [.string { data := #[110, 97, 109, 101] }, .string ob, .int .i64 0, .int .i64 0, .int .i64 0, .int .i64 0]
  rw [hw3]
  have XB3 := Lib.hid (XB2.out.on b3); have RB3 := Lib.hid (RB2.out.on b3); have HA3 := Lib.hid (HA2.out.on b3); have HX3 := Lib.hid (HX2.out.on b3)
  have hLY : L + 2 ≤ w2.heap.size := by have := RB2.out.1; omega
  obtain ⟨Y, hY⟩ : ∃ Y, w2.heap.size = Y := ⟨_, rfl⟩
  rw [hY] at TB EB b3 hs3 hLY ⊢
  have TB3 := Lib.hid TB; have EB3 := Lib.hid EB
  have B3 := Lib.hid (B2.out.trans (b3.mono (by omega)))
  clear hw3 TB EB b3 hY hsz t0 t1 t2 c0 c1 c2 c3 c4 c5 c6 XB2 RB2 HA2 HX2 B2
  obtain ⟨t0, t1, t2⟩ := box3 TB3.out
  have HTK := Lib.hid (fun (w : World) => r8taken_any ob w)
  have hob2 : ob.data.toList = x.text := by rw [← HOB.out]
  rw [hob2] at HTK
  rw [decide_eq_false TKN.out] at HTK
  go_wp2_with fail
  refine (HTK.out _).mono ?_
  rintro _ w4 ⟨rfl, b⟩
  have XB4 := Lib.hid (XB3.out.on b); have RB4 := Lib.hid (RB3.out.on b); have HA4 := Lib.hid (HA3.out.on b); have HX4 := Lib.hid (HX3.out.on b); have EB4 := Lib.hid (EB3.out.on b)
  have B4 := Lib.hid (B3.out.trans (b.mono (Nat.le_of_lt XB3.out.1)))
  clear b HTK XB3 RB3 HA3 HX3 EB3 TB3 B3 t0 t1 t2 hob2
  obtain ⟨c0, c1, c2, c3, c4, c5, c6⟩ := box7 XB4.out
  rw [HTA.out] at c0
  obtain ⟨f0, f1, f2, f3, f4, f5, f6⟩ := box7f XB4.out
  obtain ⟨e0, e1, e2, e3, e4, e5⟩ := box6 EB4.out
  go_upto_region 42 with fail
  obtain ⟨wa, hwa⟩ : ∃ w', w4.setCell ⟨L, 2, none⟩ (.int .i64 J) = w' := ⟨_, rfl⟩
  have ON : Only L w4 wa := by rw [← hwa]; exact (Only.refl L w4).set 2 _
  have XBa : Hid (Box wa L (sc c C xs.length k J 0 c.pl)) := Lib.hid (by rw [← hwa]; exact XB4.out.set 2 (by simp [sc, stC]) _)
  have RBa := Lib.hid (RB4.out.only ON (by omega))
  have EBa := Lib.hid (EB4.out.only ON (by omega))
  have HXa := Lib.hid (slr_only HX4.out XB4.out (sc_str _ _ _ _ _ _ _) ON)
  have Ba := Lib.hid (ON.below (Nat.le_refl _) B4.out)
  rw [hwa]
  clear hwa ON c0 c1 c2 c3 c4 c5 c6 f0 f1 f2 f3 f4 f5 f6 e0 e1 e2 e3 e4 e5 XB4 RB4 EB4 HA4 HX4 B4
  obtain ⟨c0, c1, c2, c3, c4, c5, c6⟩ := box7 XBa.out
  rw [HTA.out] at c0
  obtain ⟨e0, e1, e2, e3, e4, e5⟩ := box6 EBa.out
  have HP := r8put_any (w := wa) (A := some ⟨tb, toff, none⟩) (n := c.ls.length) (cap := c.cap) (B := c.B) (rn := c.rn) (rc := c.rc) (en := c.en) (er := 0) (pl := c.pl) (i := J) (y := ⟨[110, 97, 109, 101], x.text, 0, 0, 0, 0⟩) HXa.out HC.out (by have := HB.out; omega)
  unfold stV exC at HP
  simp only [] at HP
  (try rw [HOB.out] at HP)
  have HP := Lib.hid HP
  go_wp2_with fail
  refine HP.out.mono ?_
  rintro _ wb ⟨CP, kP, rfl, hcP, hsP, b⟩
  have RBb := Lib.hid (RBa.out.on b); have HXb := Lib.hid hsP; have HCP := Lib.hid hcP
  have Bb := Lib.hid (Ba.out.trans (b.mono (Nat.le_of_lt XBa.out.1)))
  clear b hsP hcP HP c0 c1 c2 c3 c4 c5 c6 e0 e1 e2 e3 e4 e5 XBa RBa EBa HXa Ba
  obtain ⟨r0, r1, r2, r3, r4, r5, r6⟩ := box7 RBb.out
  obtain ⟨f0, f1, f2, f3, f4, f5, f6⟩ := box7f RBb.out
  obtain ⟨wz, hw, rb, ON⟩ := store7 RBb.out (.slice (some ⟨tb, toff, none⟩) c.ls.length c.cap) (.int .i64 c.en) (.int .i64 J) (.slice c.B c.rn c.rc) (.slice CP (xs.length + 1) kP) (.int .i64 0) (.int .i64 c.pl)
  obtain ⟨k0', k1', k2', k3', k4', k5', k6'⟩ := box7 rb
  rw [← hw] at k0' k1' k2' k3' k4' k5' k6'
  have HW := Lib.hid hw
  have HXZ := Lib.hid (slr_only HXb.out RBb.out zero_str ON)
  have BZ := Lib.hid (ON.below (Nat.le_succ L) Bb.out)
  clear hw rb ON HXb Bb
  go_wp2_with fail
  (try simp only [Exit.inBlock, Exit.then])
  refine bodyPost_ret (by simp [results, Tryz.results72, go_sem, k0', k1', k2', k3', k4', k5', k6']; try rfl) rfl ?_
  rw [← HQ.out, HW.out, ← HTA.out]
  refine ans_one (y := ⟨[110, 97, 109, 101], x.text, 0, 0, 0, 0⟩) (t := .name x.text) (J := J) ?_ rfl rfl (by have := JJ.out; have := HLT.out; omega) HCP.out HXZ.out (by have := HLT.out; have := HD.out; omega) (by rw [HLw.out]; exact BZ.out)
  rw [HE.out, JJ.out]
set_option maxHeartbeats 6400000 in
set_option maxRecDepth 100000 in
theorem leaf_sign {c : Cfg} (hl : c.ls.length ≤ 1000) {d j : Nat} {xs : List Ex} {C : Option Addr} {k : Nat} {w : World} {x : PLex.Tok} (hj : j < c.ls.length) (hx : c.ls[j] = x) (hk : x.kind = 5) (h1 : x.text ≠ [45]) (h2 : x.text ≠ [40]) (h3 : x.text ≠ [109, 105, 110]) (h4 : x.text ≠ [109, 97, 120]) (hd : d ≤ 20) (hA : SlT w c.A c.ls.length c.ls) (hX : SlE c.N w C xs.length xs) (hC : C = none → k = 0)
    (hB : xs.length + (c.ls.length - j) + 5 * (22 - d) ≤ 5000) :
    Calls Tryz.prog 72 #[sv c C xs.length k j 0 c.pl, .int .i64 d] w (Ans c xs (xs.length + (c.ls.length - j) + 5 * (22 - d)) (PTree.ex c.en .factor d (c.ls.drop j)) w) := by
  have H1 := Lib.hid (fun (w : World) (h : SlT w c.A c.ls.length c.ls) => r8text_any (cap := c.cap) (B := c.B) (C := C) (rn := c.rn) (rc := c.rc) (xn := xs.length) (xc := k) (en := c.en) (er := 0) (pl := c.pl) h (Nat.le_of_lt hj))
  have htx : PTree.textOf (c.ls.drop j) = x.text := by rw [textOf_drop hj, hx, if_pos (by omega)]
  have hE := leaf_ex (c := c) hd hj (by rw [htx]; exact h1) (by rw [htx]; exact h2) (by rw [htx]; exact h3) (by rw [htx]; exact h4)
  rw [htx] at H1
  obtain ⟨ob, hob⟩ : ∃ b, ({ data := x.text.toArray } : ByteArray) = b := ⟨_, rfl⟩
  have q1 : (ob.toList == [45]) = false := by rw [beq_eq_false_iff_ne, ByteArray.toList_eq, ← hob]; exact h1
  have q2 : (ob.toList == [40]) = false := by rw [beq_eq_false_iff_ne, ByteArray.toList_eq, ← hob]; exact h2
  have q3 : (ob.toList == [109, 105, 110]) = false := by rw [beq_eq_false_iff_ne, ByteArray.toList_eq, ← hob]; exact h3
  have q4 : (ob.toList == [109, 97, 120]) = false := by rw [beq_eq_false_iff_ne, ByteArray.toList_eq, ← hob]; exact h4
  rw [hob] at H1
  have u1 : ((x.kind : Int) == 1) = false := by rw [beq_eq_false_iff_ne]; omega
  have u2 : ((x.kind : Int) == 2) = false := by rw [beq_eq_false_iff_ne]; omega
  have u3 : ((x.kind : Int) == 3) = false := by rw [beq_eq_false_iff_ne]; omega
  have u4 : ((x.kind : Int) == 4) = false := by rw [beq_eq_false_iff_ne]; omega
  rw [hx] at hE
  have hlf : PTree.leaf x = none := by unfold PTree.leaf; rw [if_neg (by omega), if_neg (by omega), if_neg (by omega), if_neg (by omega)]
  rw [hlf] at hE
  simp only [] at hE
  clear hlf h1 h2 h3 h4
  have HK := Lib.hid hk
  clear hk
  have HE := Lib.hid hE
  have HXX := Lib.hid hx
  have HOB := Lib.hid hob
  have HA := Lib.hid hA
  have HX := Lib.hid hX
  have HC := Lib.hid hC
  have HB := Lib.hid hB
  have g20 : ¬ (20 : Int) < (d : Int) := by omega
  have hl2 : (j : Int) < 1000 := by omega
  have gl : (j : Int) < (c.ls.length : Int) := by omega
  obtain ⟨J, hJ⟩ : ∃ J, J = j + 1 := ⟨_, rfl⟩
  have gJ : (j : Int) + 1 = (J : Int) := by omega
  have JJ := Lib.hid hJ
  have HLT := Lib.hid hj
  have HD := Lib.hid hd
  clear hA hX hC hE hx hob htx hJ hl hd hB
  obtain ⟨Q, hQ⟩ : ∃ Q, Ans c xs (xs.length + (c.ls.length - j) + 5 * (22 - d)) (PTree.ex c.en .factor d (c.ls.drop j)) w = Q := ⟨_, rfl⟩
  rw [hQ]
  have HQ := Lib.hid hQ
  clear hQ
  unfold sv stV
  unfold stV at H1
  go_enter Tryz.func72, Tryz.ntmps72
  go_upto_region 5 with fail
  obtain ⟨w1, hw1, XB, RB, b1, hs1⟩ := enter2 w 68 68 (sc c C xs.length k j 0 c.pl) zeroC
  unfold sc stC at hw1; unfold zeroC at hw1
  rw [hw1]
  obtain ⟨L, hL⟩ : ∃ L, w.heap.size = L := ⟨_, rfl⟩
  have HX1 := Lib.hid (HX.out.on b1)
  have HA1 := Lib.hid (HA.out.on b1)
  have LX := Lib.hid (slr_lt HX.out)
  have LA := Lib.hid (slt_lt HA.out)
  rw [hL] at XB RB hs1 b1 LX LA ⊢
  have XB1 := Lib.hid XB; have RB1 := Lib.hid RB; have B1 := Lib.hid b1; have HLw := Lib.hid hL
  clear hw1 hL b1 XB RB HX HA
  obtain ⟨c0, c1, c2, c3, c4, c5, c6⟩ := box7 XB1.out
  go_wp2_with fail
  refine (H1.out _ HA1.out).mono ?_
  rintro _ w2 ⟨rfl, b⟩
  have XB2 := Lib.hid (XB1.out.on b); have RB2 := Lib.hid (RB1.out.on b); have HA2 := Lib.hid (HA1.out.on b); have HX2 := Lib.hid (HX1.out.on b)
  have B2 := Lib.hid (B1.out.trans (b.mono (by omega)))
  clear b c0 c1 c2 c3 c4 c5 c6 XB1 RB1 HA1 HX1 B1 H1 hs1
  obtain ⟨c0, c1, c2, c3, c4, c5, c6⟩ := box7 XB2.out
  obtain ⟨tb, toff, htA, hcs⟩ := HA2.out.at HLT.out
  obtain ⟨t0, t1, t2⟩ := hcs j HLT.out
  rw [HXX.out] at t0 t1 t2
  rw [HOB.out] at t1
  rw [htA]
  rw [htA] at c0
  have hsz := World.block_lt_of_cell? w2 _ t0
  have HTA := Lib.hid htA
  clear hcs htA
  go_upto_region 23 with fail
  obtain ⟨w3, hw3, TB, EB, b3, hs3⟩ := enter2 w2 74 104 [.int .i64 x.kind, .string ob, .int .i64 x.at_] [.string { data := #[110, 97, 109, 101] }, .string ob, .int .i64 0, .int .i64 0, .int .i64 0, .int .i64 0]
  rw [hw3]
  have XB3 := Lib.hid (XB2.out.on b3); have RB3 := Lib.hid (RB2.out.on b3); have HA3 := Lib.hid (HA2.out.on b3); have HX3 := Lib.hid (HX2.out.on b3)
  have hLY : L + 2 ≤ w2.heap.size := by have := RB2.out.1; omega
  obtain ⟨Y, hY⟩ : ∃ Y, w2.heap.size = Y := ⟨_, rfl⟩
  rw [hY] at TB EB b3 hs3 hLY ⊢
  have TB3 := Lib.hid TB; have EB3 := Lib.hid EB
  have B3 := Lib.hid (B2.out.trans (b3.mono (by omega)))
  clear hw3 TB EB b3 hY hsz t0 t1 t2 c0 c1 c2 c3 c4 c5 c6 XB2 RB2 HA2 HX2 B2
  obtain ⟨t0, t1, t2⟩ := box3 TB3.out
  obtain ⟨c0, c1, c2, c3, c4, c5, c6⟩ := box7 XB3.out
  rw [HTA.out] at c0
  have HWR := Lib.hid (r8wrong_new (w := w3) (A := some ⟨tb, toff, none⟩) (cap := c.cap) (B := c.B) (C := C) (rn := c.rn) (rc := c.rc) (xn := xs.length) (xc := k) (en := c.en) (e := 2) (pl := c.pl) (HTA.out ▸ HA3.out) (Nat.le_of_lt HLT.out))
  rw [placeOf_drop HLT.out, HXX.out] at HWR
  unfold stV at HWR
  go_wp2_with fail
  refine HWR.out.mono ?_
  rintro _ wa ⟨rfl, b⟩
  have RBa := Lib.hid (RB3.out.on b); have HXa := Lib.hid (HX3.out.on b)
  have Ba := Lib.hid (B3.out.trans (b.mono (Nat.le_of_lt XB3.out.1)))
  clear b HWR c0 c1 c2 c3 c4 c5 c6 XB3 RB3 HA3 HX3 B3
  obtain ⟨r0, r1, r2, r3, r4, r5, r6⟩ := box7 RBa.out
  obtain ⟨f0, f1, f2, f3, f4, f5, f6⟩ := box7f RBa.out
  obtain ⟨wz, hw, rb, ON⟩ := store7 RBa.out (.slice (some ⟨tb, toff, none⟩) c.ls.length c.cap) (.int .i64 c.en) (.int .i64 j) (.slice c.B c.rn c.rc) (.slice C xs.length k) (.int .i64 2) (.int .i64 x.at_)
  obtain ⟨k0', k1', k2', k3', k4', k5', k6'⟩ := box7 rb
  rw [← hw] at k0' k1' k2' k3' k4' k5' k6'
  have HW := Lib.hid hw
  have HXZ := Lib.hid (slr_only HXa.out RBa.out zero_str ON)
  have BZ := Lib.hid (ON.below (Nat.le_succ L) Ba.out)
  clear hw rb ON HXa Ba
  go_wp2_with fail
  (try simp only [Exit.inBlock, Exit.then])
  refine bodyPost_ret (by simp [results, Tryz.results72, go_sem, k0', k1', k2', k3', k4', k5', k6']; try rfl) rfl ?_
  rw [← HQ.out, HW.out, ← HTA.out]
  exact ans_bad HE.out (.inl rfl) HC.out HXZ.out (by omega) (by rw [HLw.out]; exact BZ.out)
set_option maxHeartbeats 6400000 in
set_option maxRecDepth 100000 in
theorem leaf_amount {c : Cfg} (hl : c.ls.length ≤ 1000) {d j : Nat} {xs : List Ex} {C : Option Addr} {k : Nat} {w : World} {x : PLex.Tok} (hj : j < c.ls.length) (hx : c.ls[j] = x) (hk : x.kind = 3) (hlone : PLex.Lone PLex.kindOf x.kind x.text) (hlen : x.text.length ≤ 1000) (hd : d ≤ 20) (hA : SlT w c.A c.ls.length c.ls) (hX : SlE c.N w C xs.length xs) (hC : C = none → k = 0)
    (hB : xs.length + (c.ls.length - j) + 5 * (22 - d) ≤ 5000) :
    Calls Tryz.prog 72 #[sv c C xs.length k j 0 c.pl, .int .i64 d] w (Ans c xs (xs.length + (c.ls.length - j) + 5 * (22 - d)) (PTree.ex c.en .factor d (c.ls.drop j)) w) := by
  have H1 := Lib.hid (fun (w : World) (h : SlT w c.A c.ls.length c.ls) => r8text_any (cap := c.cap) (B := c.B) (C := C) (rn := c.rn) (rc := c.rc) (xn := xs.length) (xc := k) (en := c.en) (er := 0) (pl := c.pl) h (Nat.le_of_lt hj))
  have htx : PTree.textOf (c.ls.drop j) = [] := by rw [textOf_drop hj, hx, if_neg (by omega)]
  have hE := leaf_ex (c := c) hd hj (by rw [htx]; decide) (by rw [htx]; decide) (by rw [htx]; decide) (by rw [htx]; decide)
  rw [htx] at H1
  obtain ⟨ob, hob⟩ : ∃ b, ({ data := x.text.toArray } : ByteArray) = b := ⟨_, rfl⟩
  have u1 : ((x.kind : Int) == 1) = false := by rw [beq_eq_false_iff_ne]; omega
  have u2 : ((x.kind : Int) == 2) = false := by rw [beq_eq_false_iff_ne]; omega
  have u3 : ((x.kind : Int) == 3) = true := by rw [hk]; rfl
  have u4 : ((x.kind : Int) == 4) = false := by rw [beq_eq_false_iff_ne]; omega
  rw [hx] at hE
  obtain ⟨v, hv⟩ : ∃ n, PMoney.parse x.text = some n := by rw [hk] at hlone; exact hlone.amount
  have hlf : PTree.leaf x = some (.amount v) := by unfold PTree.leaf; rw [if_neg (by omega), if_neg (by omega), if_pos hk, hv]; rfl
  rw [hlf] at hE
  simp only [] at hE
  have HV := Lib.hid hv
  have HLEN := Lib.hid hlen
  clear hlf hv hlone hlen
  have HK := Lib.hid hk
  clear hk
  have HE := Lib.hid hE
  have HXX := Lib.hid hx
  have HOB := Lib.hid hob
  have HA := Lib.hid hA
  have HX := Lib.hid hX
  have HC := Lib.hid hC
  have HB := Lib.hid hB
  have g20 : ¬ (20 : Int) < (d : Int) := by omega
  have hl2 : (j : Int) < 1000 := by omega
  have gl : (j : Int) < (c.ls.length : Int) := by omega
  obtain ⟨J, hJ⟩ : ∃ J, J = j + 1 := ⟨_, rfl⟩
  have gJ : (j : Int) + 1 = (J : Int) := by omega
  have JJ := Lib.hid hJ
  have HLT := Lib.hid hj
  have HD := Lib.hid hd
  clear hA hX hC hE hx hob htx hJ hl hd hB
  obtain ⟨Q, hQ⟩ : ∃ Q, Ans c xs (xs.length + (c.ls.length - j) + 5 * (22 - d)) (PTree.ex c.en .factor d (c.ls.drop j)) w = Q := ⟨_, rfl⟩
  rw [hQ]
  have HQ := Lib.hid hQ
  clear hQ
  unfold sv stV
  unfold stV at H1
  go_enter Tryz.func72, Tryz.ntmps72
  go_upto_region 5 with fail
  obtain ⟨w1, hw1, XB, RB, b1, hs1⟩ := enter2 w 68 68 (sc c C xs.length k j 0 c.pl) zeroC
  unfold sc stC at hw1; unfold zeroC at hw1
  rw [hw1]
  obtain ⟨L, hL⟩ : ∃ L, w.heap.size = L := ⟨_, rfl⟩
  have HX1 := Lib.hid (HX.out.on b1)
  have HA1 := Lib.hid (HA.out.on b1)
  have LX := Lib.hid (slr_lt HX.out)
  have LA := Lib.hid (slt_lt HA.out)
  rw [hL] at XB RB hs1 b1 LX LA ⊢
  have XB1 := Lib.hid XB; have RB1 := Lib.hid RB; have B1 := Lib.hid b1; have HLw := Lib.hid hL
  clear hw1 hL b1 XB RB HX HA
  obtain ⟨c0, c1, c2, c3, c4, c5, c6⟩ := box7 XB1.out
  go_wp2_with fail
  refine (H1.out _ HA1.out).mono ?_
  rintro _ w2 ⟨rfl, b⟩
  have XB2 := Lib.hid (XB1.out.on b); have RB2 := Lib.hid (RB1.out.on b); have HA2 := Lib.hid (HA1.out.on b); have HX2 := Lib.hid (HX1.out.on b)
  have B2 := Lib.hid (B1.out.trans (b.mono (by omega)))
  clear b c0 c1 c2 c3 c4 c5 c6 XB1 RB1 HA1 HX1 B1 H1 hs1
  obtain ⟨c0, c1, c2, c3, c4, c5, c6⟩ := box7 XB2.out
  obtain ⟨tb, toff, htA, hcs⟩ := HA2.out.at HLT.out
  obtain ⟨t0, t1, t2⟩ := hcs j HLT.out
  rw [HXX.out] at t0 t1 t2
  rw [HOB.out] at t1
  rw [htA]
  rw [htA] at c0
  have hsz := World.block_lt_of_cell? w2 _ t0
  have HTA := Lib.hid htA
  clear hcs htA
  go_upto_region 23 with fail
  obtain ⟨w3, hw3, TB, EB, b3, hs3⟩ := enter2 w2 74 104 [.int .i64 x.kind, .string ob, .int .i64 x.at_] [.string { data := #[110, 97, 109, 101] }, .string ob, .int .i64 0, .int .i64 0, .int .i64 0, .int .i64 0]
  rw [hw3]
  have XB3 := Lib.hid (XB2.out.on b3); have RB3 := Lib.hid (RB2.out.on b3); have HA3 := Lib.hid (HA2.out.on b3); have HX3 := Lib.hid (HX2.out.on b3)
  have hLY : L + 2 ≤ w2.heap.size := by have := RB2.out.1; omega
  obtain ⟨Y, hY⟩ : ∃ Y, w2.heap.size = Y := ⟨_, rfl⟩
  rw [hY] at TB EB b3 hs3 hLY ⊢
  have TB3 := Lib.hid TB; have EB3 := Lib.hid EB
  have B3 := Lib.hid (B2.out.trans (b3.mono (by omega)))
  clear hw3 TB EB b3 hY hsz t0 t1 t2 c0 c1 c2 c3 c4 c5 c6 XB2 RB2 HA2 HX2 B2
  obtain ⟨t0, t1, t2⟩ := box3 TB3.out
  have hob2 : ob.data.toList = x.text := by rw [← HOB.out]
  have hob3 : ob.size ≤ 1000 := by have := congrArg List.length hob2; rw [Array.length_toList] at this; have h2 := HLEN.out; show ob.data.size ≤ 1000; omega
  have HPA := Lib.hid (fun (w : World) => refparse_any ob w (by omega))
  rw [hob2] at HPA
  go_wp2_with fail
  refine (HPA.out _).mono ?_
  rintro _ w4 ⟨v2, b2, rfl, hb2, hv2, b⟩
  obtain rfl := hv2 _ HV.out
  have XB4 := Lib.hid (XB3.out.on b); have RB4 := Lib.hid (RB3.out.on b); have HA4 := Lib.hid (HA3.out.on b); have HX4 := Lib.hid (HX3.out.on b); have EB4 := Lib.hid (EB3.out.on b)
  have B4 := Lib.hid (B3.out.trans (b.mono (Nat.le_of_lt XB3.out.1)))
  clear b hb2 hv2 HPA XB3 RB3 HA3 HX3 EB3 TB3 B3 t0 t1 t2 hob2 hob3
  obtain ⟨e0, e1, e2, e3, e4, e5⟩ := box6 EB4.out
  obtain ⟨f0, f1, f2, f3, f4, f5⟩ := box6f EB4.out
  obtain ⟨w5, hw, eb, ON⟩ := store6 EB4.out (.string { data := #[97, 109, 111, 117, 110, 116] }) (.string { data := #[] }) (.int .i64 v2) (.int .i64 0) (.int .i64 0) (.int .i64 0)
  have EB5 := Lib.hid eb
  have HW := Lib.hid hw
  have XB5 := Lib.hid (XB4.out.only ON (by omega)); have RB5 := Lib.hid (RB4.out.only ON (by omega))
  have HA5 := Lib.hid (slt_at HA4.out LA.out (by omega) ON)
  have HX5 := Lib.hid (slr_at HX4.out LX.out (by omega) ON)
  have B5 := Lib.hid (ON.below (by omega) B4.out)
  clear hw eb ON XB4 RB4 HA4 HX4 EB4 B4
  go_upto_region 41 with fail
  rw [HW.out]
  clear HW e0 e1 e2 e3 e4 e5 f0 f1 f2 f3 f4 f5
  obtain ⟨c0, c1, c2, c3, c4, c5, c6⟩ := box7 XB5.out
  rw [HTA.out] at c0
  obtain ⟨f0, f1, f2, f3, f4, f5, f6⟩ := box7f XB5.out
  obtain ⟨e0, e1, e2, e3, e4, e5⟩ := box6 EB5.out
  go_upto_region 42 with fail
  obtain ⟨wa, hwa⟩ : ∃ w', w5.setCell ⟨L, 2, none⟩ (.int .i64 J) = w' := ⟨_, rfl⟩
  have ON : Only L w5 wa := by rw [← hwa]; exact (Only.refl L w5).set 2 _
  have XBa : Hid (Box wa L (sc c C xs.length k J 0 c.pl)) := Lib.hid (by rw [← hwa]; exact XB5.out.set 2 (by simp [sc, stC]) _)
  have RBa := Lib.hid (RB5.out.only ON (by omega))
  have EBa := Lib.hid (EB5.out.only ON (by omega))
  have HXa := Lib.hid (slr_only HX5.out XB5.out (sc_str _ _ _ _ _ _ _) ON)
  have Ba := Lib.hid (ON.below (Nat.le_refl _) B5.out)
  rw [hwa]
  clear hwa ON c0 c1 c2 c3 c4 c5 c6 f0 f1 f2 f3 f4 f5 f6 e0 e1 e2 e3 e4 e5 XB5 RB5 EB5 HA5 HX5 B5
  obtain ⟨c0, c1, c2, c3, c4, c5, c6⟩ := box7 XBa.out
  rw [HTA.out] at c0
  obtain ⟨e0, e1, e2, e3, e4, e5⟩ := box6 EBa.out
  have HP := r8put_any (w := wa) (A := some ⟨tb, toff, none⟩) (n := c.ls.length) (cap := c.cap) (B := c.B) (rn := c.rn) (rc := c.rc) (en := c.en) (er := 0) (pl := c.pl) (i := J) (y := ⟨[97, 109, 111, 117, 110, 116], [], v2, 0, 0, 0⟩) HXa.out HC.out (by have := HB.out; omega)
  unfold stV exC at HP
  simp only [] at HP
  (try rw [HOB.out] at HP)
  have HP := Lib.hid HP
  go_wp2_with fail
  refine HP.out.mono ?_
  rintro _ wb ⟨CP, kP, rfl, hcP, hsP, b⟩
  have RBb := Lib.hid (RBa.out.on b); have HXb := Lib.hid hsP; have HCP := Lib.hid hcP
  have Bb := Lib.hid (Ba.out.trans (b.mono (Nat.le_of_lt XBa.out.1)))
  clear b hsP hcP HP c0 c1 c2 c3 c4 c5 c6 e0 e1 e2 e3 e4 e5 XBa RBa EBa HXa Ba
  obtain ⟨r0, r1, r2, r3, r4, r5, r6⟩ := box7 RBb.out
  obtain ⟨f0, f1, f2, f3, f4, f5, f6⟩ := box7f RBb.out
  obtain ⟨wz, hw, rb, ON⟩ := store7 RBb.out (.slice (some ⟨tb, toff, none⟩) c.ls.length c.cap) (.int .i64 c.en) (.int .i64 J) (.slice c.B c.rn c.rc) (.slice CP (xs.length + 1) kP) (.int .i64 0) (.int .i64 c.pl)
  obtain ⟨k0', k1', k2', k3', k4', k5', k6'⟩ := box7 rb
  rw [← hw] at k0' k1' k2' k3' k4' k5' k6'
  have HW := Lib.hid hw
  have HXZ := Lib.hid (slr_only HXb.out RBb.out zero_str ON)
  have BZ := Lib.hid (ON.below (Nat.le_succ L) Bb.out)
  clear hw rb ON HXb Bb
  go_wp2_with fail
  (try simp only [Exit.inBlock, Exit.then])
  refine bodyPost_ret (by simp [results, Tryz.results72, go_sem, k0', k1', k2', k3', k4', k5', k6']; try rfl) rfl ?_
  rw [← HQ.out, HW.out, ← HTA.out]
  refine ans_one (y := ⟨[97, 109, 111, 117, 110, 116], [], v2, 0, 0, 0⟩) (t := .amount v2) (J := J) ?_ rfl rfl (by have := JJ.out; have := HLT.out; omega) HCP.out HXZ.out (by have := HLT.out; have := HD.out; omega) (by rw [HLw.out]; exact BZ.out)
  rw [HE.out, JJ.out]
set_option maxHeartbeats 6400000 in
set_option maxRecDepth 100000 in
theorem leaf_rate {c : Cfg} (hl : c.ls.length ≤ 1000) {d j : Nat} {xs : List Ex} {C : Option Addr} {k : Nat} {w : World} {x : PLex.Tok} (hj : j < c.ls.length) (hx : c.ls[j] = x) (hk : x.kind = 4) (hlone : PLex.Lone PLex.kindOf x.kind x.text) (hlen : x.text.length ≤ 1000) (hd : d ≤ 20) (hA : SlT w c.A c.ls.length c.ls) (hX : SlE c.N w C xs.length xs) (hC : C = none → k = 0)
    (hB : xs.length + (c.ls.length - j) + 5 * (22 - d) ≤ 5000) :
    Calls Tryz.prog 72 #[sv c C xs.length k j 0 c.pl, .int .i64 d] w (Ans c xs (xs.length + (c.ls.length - j) + 5 * (22 - d)) (PTree.ex c.en .factor d (c.ls.drop j)) w) := by
  have H1 := Lib.hid (fun (w : World) (h : SlT w c.A c.ls.length c.ls) => r8text_any (cap := c.cap) (B := c.B) (C := C) (rn := c.rn) (rc := c.rc) (xn := xs.length) (xc := k) (en := c.en) (er := 0) (pl := c.pl) h (Nat.le_of_lt hj))
  have htx : PTree.textOf (c.ls.drop j) = [] := by rw [textOf_drop hj, hx, if_neg (by omega)]
  have hE := leaf_ex (c := c) hd hj (by rw [htx]; decide) (by rw [htx]; decide) (by rw [htx]; decide) (by rw [htx]; decide)
  rw [htx] at H1
  obtain ⟨ob, hob⟩ : ∃ b, ({ data := x.text.toArray } : ByteArray) = b := ⟨_, rfl⟩
  have u1 : ((x.kind : Int) == 1) = false := by rw [beq_eq_false_iff_ne]; omega
  have u2 : ((x.kind : Int) == 2) = false := by rw [beq_eq_false_iff_ne]; omega
  have u3 : ((x.kind : Int) == 3) = false := by rw [beq_eq_false_iff_ne]; omega
  have u4 : ((x.kind : Int) == 4) = true := by rw [hk]; rfl
  rw [hx] at hE
  obtain ⟨v, hv⟩ : ∃ n, PRate.parse x.text = some n := by rw [hk] at hlone; exact hlone.percent
  have hlf : PTree.leaf x = some (.rate v) := by unfold PTree.leaf; rw [if_neg (by omega), if_neg (by omega), if_neg (by omega), if_pos hk, hv]; rfl
  rw [hlf] at hE
  simp only [] at hE
  have HV := Lib.hid hv
  have HLEN := Lib.hid hlen
  clear hlf hv hlone hlen
  have HK := Lib.hid hk
  clear hk
  have HE := Lib.hid hE
  have HXX := Lib.hid hx
  have HOB := Lib.hid hob
  have HA := Lib.hid hA
  have HX := Lib.hid hX
  have HC := Lib.hid hC
  have HB := Lib.hid hB
  have g20 : ¬ (20 : Int) < (d : Int) := by omega
  have hl2 : (j : Int) < 1000 := by omega
  have gl : (j : Int) < (c.ls.length : Int) := by omega
  obtain ⟨J, hJ⟩ : ∃ J, J = j + 1 := ⟨_, rfl⟩
  have gJ : (j : Int) + 1 = (J : Int) := by omega
  have JJ := Lib.hid hJ
  have HLT := Lib.hid hj
  have HD := Lib.hid hd
  clear hA hX hC hE hx hob htx hJ hl hd hB
  obtain ⟨Q, hQ⟩ : ∃ Q, Ans c xs (xs.length + (c.ls.length - j) + 5 * (22 - d)) (PTree.ex c.en .factor d (c.ls.drop j)) w = Q := ⟨_, rfl⟩
  rw [hQ]
  have HQ := Lib.hid hQ
  clear hQ
  unfold sv stV
  unfold stV at H1
  go_enter Tryz.func72, Tryz.ntmps72
  go_upto_region 5 with fail
  obtain ⟨w1, hw1, XB, RB, b1, hs1⟩ := enter2 w 68 68 (sc c C xs.length k j 0 c.pl) zeroC
  unfold sc stC at hw1; unfold zeroC at hw1
  rw [hw1]
  obtain ⟨L, hL⟩ : ∃ L, w.heap.size = L := ⟨_, rfl⟩
  have HX1 := Lib.hid (HX.out.on b1)
  have HA1 := Lib.hid (HA.out.on b1)
  have LX := Lib.hid (slr_lt HX.out)
  have LA := Lib.hid (slt_lt HA.out)
  rw [hL] at XB RB hs1 b1 LX LA ⊢
  have XB1 := Lib.hid XB; have RB1 := Lib.hid RB; have B1 := Lib.hid b1; have HLw := Lib.hid hL
  clear hw1 hL b1 XB RB HX HA
  obtain ⟨c0, c1, c2, c3, c4, c5, c6⟩ := box7 XB1.out
  go_wp2_with fail
  refine (H1.out _ HA1.out).mono ?_
  rintro _ w2 ⟨rfl, b⟩
  have XB2 := Lib.hid (XB1.out.on b); have RB2 := Lib.hid (RB1.out.on b); have HA2 := Lib.hid (HA1.out.on b); have HX2 := Lib.hid (HX1.out.on b)
  have B2 := Lib.hid (B1.out.trans (b.mono (by omega)))
  clear b c0 c1 c2 c3 c4 c5 c6 XB1 RB1 HA1 HX1 B1 H1 hs1
  obtain ⟨c0, c1, c2, c3, c4, c5, c6⟩ := box7 XB2.out
  obtain ⟨tb, toff, htA, hcs⟩ := HA2.out.at HLT.out
  obtain ⟨t0, t1, t2⟩ := hcs j HLT.out
  rw [HXX.out] at t0 t1 t2
  rw [HOB.out] at t1
  rw [htA]
  rw [htA] at c0
  have hsz := World.block_lt_of_cell? w2 _ t0
  have HTA := Lib.hid htA
  clear hcs htA
  go_upto_region 23 with fail
  obtain ⟨w3, hw3, TB, EB, b3, hs3⟩ := enter2 w2 74 104 [.int .i64 x.kind, .string ob, .int .i64 x.at_] [.string { data := #[110, 97, 109, 101] }, .string ob, .int .i64 0, .int .i64 0, .int .i64 0, .int .i64 0]
  rw [hw3]
  have XB3 := Lib.hid (XB2.out.on b3); have RB3 := Lib.hid (RB2.out.on b3); have HA3 := Lib.hid (HA2.out.on b3); have HX3 := Lib.hid (HX2.out.on b3)
  have hLY : L + 2 ≤ w2.heap.size := by have := RB2.out.1; omega
  obtain ⟨Y, hY⟩ : ∃ Y, w2.heap.size = Y := ⟨_, rfl⟩
  rw [hY] at TB EB b3 hs3 hLY ⊢
  have TB3 := Lib.hid TB; have EB3 := Lib.hid EB
  have B3 := Lib.hid (B2.out.trans (b3.mono (by omega)))
  clear hw3 TB EB b3 hY hsz t0 t1 t2 c0 c1 c2 c3 c4 c5 c6 XB2 RB2 HA2 HX2 B2
  obtain ⟨t0, t1, t2⟩ := box3 TB3.out
  have hob2 : ob.data.toList = x.text := by rw [← HOB.out]
  have hob3 : ob.size ≤ 1000 := by have := congrArg List.length hob2; rw [Array.length_toList] at this; have h2 := HLEN.out; show ob.data.size ≤ 1000; omega
  have HPA := Lib.hid (fun (w : World) => refparse3 ob w (by omega))
  rw [hob2, rparseV_some HV.out] at HPA
  go_wp2_with fail
  refine (HPA.out _).mono ?_
  rintro _ w4 ⟨rfl, b⟩
  have XB4 := Lib.hid (XB3.out.on b); have RB4 := Lib.hid (RB3.out.on b); have HA4 := Lib.hid (HA3.out.on b); have HX4 := Lib.hid (HX3.out.on b); have EB4 := Lib.hid (EB3.out.on b)
  have B4 := Lib.hid (B3.out.trans (b.mono (Nat.le_of_lt XB3.out.1)))
  clear b HPA XB3 RB3 HA3 HX3 EB3 TB3 B3 t0 t1 t2 hob2 hob3
  obtain ⟨e0, e1, e2, e3, e4, e5⟩ := box6 EB4.out
  obtain ⟨f0, f1, f2, f3, f4, f5⟩ := box6f EB4.out
  obtain ⟨w5, hw, eb, ON⟩ := store6 EB4.out (.string { data := #[114, 97, 116, 101] }) (.string { data := #[] }) (.int .i64 v) (.int .i64 0) (.int .i64 0) (.int .i64 0)
  have EB5 := Lib.hid eb
  have HW := Lib.hid hw
  have XB5 := Lib.hid (XB4.out.only ON (by omega)); have RB5 := Lib.hid (RB4.out.only ON (by omega))
  have HA5 := Lib.hid (slt_at HA4.out LA.out (by omega) ON)
  have HX5 := Lib.hid (slr_at HX4.out LX.out (by omega) ON)
  have B5 := Lib.hid (ON.below (by omega) B4.out)
  clear hw eb ON XB4 RB4 HA4 HX4 EB4 B4
  go_upto_region 41 with fail
  rw [HW.out]
  clear HW e0 e1 e2 e3 e4 e5 f0 f1 f2 f3 f4 f5
  obtain ⟨c0, c1, c2, c3, c4, c5, c6⟩ := box7 XB5.out
  rw [HTA.out] at c0
  obtain ⟨f0, f1, f2, f3, f4, f5, f6⟩ := box7f XB5.out
  obtain ⟨e0, e1, e2, e3, e4, e5⟩ := box6 EB5.out
  go_upto_region 42 with fail
  obtain ⟨wa, hwa⟩ : ∃ w', w5.setCell ⟨L, 2, none⟩ (.int .i64 J) = w' := ⟨_, rfl⟩
  have ON : Only L w5 wa := by rw [← hwa]; exact (Only.refl L w5).set 2 _
  have XBa : Hid (Box wa L (sc c C xs.length k J 0 c.pl)) := Lib.hid (by rw [← hwa]; exact XB5.out.set 2 (by simp [sc, stC]) _)
  have RBa := Lib.hid (RB5.out.only ON (by omega))
  have EBa := Lib.hid (EB5.out.only ON (by omega))
  have HXa := Lib.hid (slr_only HX5.out XB5.out (sc_str _ _ _ _ _ _ _) ON)
  have Ba := Lib.hid (ON.below (Nat.le_refl _) B5.out)
  rw [hwa]
  clear hwa ON c0 c1 c2 c3 c4 c5 c6 f0 f1 f2 f3 f4 f5 f6 e0 e1 e2 e3 e4 e5 XB5 RB5 EB5 HA5 HX5 B5
  obtain ⟨c0, c1, c2, c3, c4, c5, c6⟩ := box7 XBa.out
  rw [HTA.out] at c0
  obtain ⟨e0, e1, e2, e3, e4, e5⟩ := box6 EBa.out
  have HP := r8put_any (w := wa) (A := some ⟨tb, toff, none⟩) (n := c.ls.length) (cap := c.cap) (B := c.B) (rn := c.rn) (rc := c.rc) (en := c.en) (er := 0) (pl := c.pl) (i := J) (y := ⟨[114, 97, 116, 101], [], v, 0, 0, 0⟩) HXa.out HC.out (by have := HB.out; omega)
  unfold stV exC at HP
  simp only [] at HP
  (try rw [HOB.out] at HP)
  have HP := Lib.hid HP
  go_wp2_with fail
  refine HP.out.mono ?_
  rintro _ wb ⟨CP, kP, rfl, hcP, hsP, b⟩
  have RBb := Lib.hid (RBa.out.on b); have HXb := Lib.hid hsP; have HCP := Lib.hid hcP
  have Bb := Lib.hid (Ba.out.trans (b.mono (Nat.le_of_lt XBa.out.1)))
  clear b hsP hcP HP c0 c1 c2 c3 c4 c5 c6 e0 e1 e2 e3 e4 e5 XBa RBa EBa HXa Ba
  obtain ⟨r0, r1, r2, r3, r4, r5, r6⟩ := box7 RBb.out
  obtain ⟨f0, f1, f2, f3, f4, f5, f6⟩ := box7f RBb.out
  obtain ⟨wz, hw, rb, ON⟩ := store7 RBb.out (.slice (some ⟨tb, toff, none⟩) c.ls.length c.cap) (.int .i64 c.en) (.int .i64 J) (.slice c.B c.rn c.rc) (.slice CP (xs.length + 1) kP) (.int .i64 0) (.int .i64 c.pl)
  obtain ⟨k0', k1', k2', k3', k4', k5', k6'⟩ := box7 rb
  rw [← hw] at k0' k1' k2' k3' k4' k5' k6'
  have HW := Lib.hid hw
  have HXZ := Lib.hid (slr_only HXb.out RBb.out zero_str ON)
  have BZ := Lib.hid (ON.below (Nat.le_succ L) Bb.out)
  clear hw rb ON HXb Bb
  go_wp2_with fail
  (try simp only [Exit.inBlock, Exit.then])
  refine bodyPost_ret (by simp [results, Tryz.results72, go_sem, k0', k1', k2', k3', k4', k5', k6']; try rfl) rfl ?_
  rw [← HQ.out, HW.out, ← HTA.out]
  refine ans_one (y := ⟨[114, 97, 116, 101], [], v, 0, 0, 0⟩) (t := .rate v) (J := J) ?_ rfl rfl (by have := JJ.out; have := HLT.out; omega) HCP.out HXZ.out (by have := HLT.out; have := HD.out; omega) (by rw [HLw.out]; exact BZ.out)
  rw [HE.out, JJ.out]
set_option maxHeartbeats 6400000 in
set_option maxRecDepth 100000 in
theorem leaf_whole {c : Cfg} (hl : c.ls.length ≤ 1000) {d j : Nat} {xs : List Ex} {C : Option Addr} {k : Nat} {w : World} {x : PLex.Tok} (hj : j < c.ls.length) (hx : c.ls[j] = x) (hk : x.kind = 2) (hlone : PLex.Lone PLex.kindOf x.kind x.text) (hd : d ≤ 20) (hA : SlT w c.A c.ls.length c.ls) (hX : SlE c.N w C xs.length xs) (hC : C = none → k = 0)
    (hB : xs.length + (c.ls.length - j) + 5 * (22 - d) ≤ 5000) :
    Calls Tryz.prog 72 #[sv c C xs.length k j 0 c.pl, .int .i64 d] w (Ans c xs (xs.length + (c.ls.length - j) + 5 * (22 - d)) (PTree.ex c.en .factor d (c.ls.drop j)) w) := by
  have H1 := Lib.hid (fun (w : World) (h : SlT w c.A c.ls.length c.ls) => r8text_any (cap := c.cap) (B := c.B) (C := C) (rn := c.rn) (rc := c.rc) (xn := xs.length) (xc := k) (en := c.en) (er := 0) (pl := c.pl) h (Nat.le_of_lt hj))
  have htx : PTree.textOf (c.ls.drop j) = [] := by rw [textOf_drop hj, hx, if_neg (by omega)]
  have hE := leaf_ex (c := c) hd hj (by rw [htx]; decide) (by rw [htx]; decide) (by rw [htx]; decide) (by rw [htx]; decide)
  rw [htx] at H1
  obtain ⟨ob, hob⟩ : ∃ b, ({ data := x.text.toArray } : ByteArray) = b := ⟨_, rfl⟩
  have u1 : ((x.kind : Int) == 1) = false := by rw [beq_eq_false_iff_ne]; omega
  have u2 : ((x.kind : Int) == 2) = true := by rw [hk]; rfl
  have u3 : ((x.kind : Int) == 3) = false := by rw [beq_eq_false_iff_ne]; omega
  have u4 : ((x.kind : Int) == 4) = false := by rw [beq_eq_false_iff_ne]; omega
  rw [hx] at hE
  have hlf : PTree.leaf x = some (.whole (PTree.numOf x.text)) := by unfold PTree.leaf; rw [if_neg (by omega), if_pos hk]
  rw [hlf] at hE
  simp only [] at hE
  have HDG := Lib.hid (PLex.whole_digs (PLex.Lone.whole (by rw [hk] at hlone; exact hlone)))
  clear hlf hlone
  have HK := Lib.hid hk
  clear hk
  have HE := Lib.hid hE
  have HXX := Lib.hid hx
  have HOB := Lib.hid hob
  have HA := Lib.hid hA
  have HX := Lib.hid hX
  have HC := Lib.hid hC
  have HB := Lib.hid hB
  have g20 : ¬ (20 : Int) < (d : Int) := by omega
  have hl2 : (j : Int) < 1000 := by omega
  have gl : (j : Int) < (c.ls.length : Int) := by omega
  obtain ⟨J, hJ⟩ : ∃ J, J = j + 1 := ⟨_, rfl⟩
  have gJ : (j : Int) + 1 = (J : Int) := by omega
  have JJ := Lib.hid hJ
  have HLT := Lib.hid hj
  have HD := Lib.hid hd
  clear hA hX hC hE hx hob htx hJ hl hd hB
  obtain ⟨Q, hQ⟩ : ∃ Q, Ans c xs (xs.length + (c.ls.length - j) + 5 * (22 - d)) (PTree.ex c.en .factor d (c.ls.drop j)) w = Q := ⟨_, rfl⟩
  rw [hQ]
  have HQ := Lib.hid hQ
  clear hQ
  unfold sv stV
  unfold stV at H1
  go_enter Tryz.func72, Tryz.ntmps72
  go_upto_region 5 with fail
  obtain ⟨w1, hw1, XB, RB, b1, hs1⟩ := enter2 w 68 68 (sc c C xs.length k j 0 c.pl) zeroC
  unfold sc stC at hw1; unfold zeroC at hw1
  rw [hw1]
  obtain ⟨L, hL⟩ : ∃ L, w.heap.size = L := ⟨_, rfl⟩
  have HX1 := Lib.hid (HX.out.on b1)
  have HA1 := Lib.hid (HA.out.on b1)
  have LX := Lib.hid (slr_lt HX.out)
  have LA := Lib.hid (slt_lt HA.out)
  rw [hL] at XB RB hs1 b1 LX LA ⊢
  have XB1 := Lib.hid XB; have RB1 := Lib.hid RB; have B1 := Lib.hid b1; have HLw := Lib.hid hL
  clear hw1 hL b1 XB RB HX HA
  obtain ⟨c0, c1, c2, c3, c4, c5, c6⟩ := box7 XB1.out
  go_wp2_with fail
  refine (H1.out _ HA1.out).mono ?_
  rintro _ w2 ⟨rfl, b⟩
  have XB2 := Lib.hid (XB1.out.on b); have RB2 := Lib.hid (RB1.out.on b); have HA2 := Lib.hid (HA1.out.on b); have HX2 := Lib.hid (HX1.out.on b)
  have B2 := Lib.hid (B1.out.trans (b.mono (by omega)))
  clear b c0 c1 c2 c3 c4 c5 c6 XB1 RB1 HA1 HX1 B1 H1 hs1
  obtain ⟨c0, c1, c2, c3, c4, c5, c6⟩ := box7 XB2.out
  obtain ⟨tb, toff, htA, hcs⟩ := HA2.out.at HLT.out
  obtain ⟨t0, t1, t2⟩ := hcs j HLT.out
  rw [HXX.out] at t0 t1 t2
  rw [HOB.out] at t1
  rw [htA]
  rw [htA] at c0
  have hsz := World.block_lt_of_cell? w2 _ t0
  have HTA := Lib.hid htA
  clear hcs htA
  go_upto_region 23 with fail
  obtain ⟨w3, hw3, TB, EB, b3, hs3⟩ := enter2 w2 74 104 [.int .i64 x.kind, .string ob, .int .i64 x.at_] [.string { data := #[110, 97, 109, 101] }, .string ob, .int .i64 0, .int .i64 0, .int .i64 0, .int .i64 0]
  rw [hw3]
  have XB3 := Lib.hid (XB2.out.on b3); have RB3 := Lib.hid (RB2.out.on b3); have HA3 := Lib.hid (HA2.out.on b3); have HX3 := Lib.hid (HX2.out.on b3)
  have hLY : L + 2 ≤ w2.heap.size := by have := RB2.out.1; omega
  obtain ⟨Y, hY⟩ : ∃ Y, w2.heap.size = Y := ⟨_, rfl⟩
  rw [hY] at TB EB b3 hs3 hLY ⊢
  have TB3 := Lib.hid TB; have EB3 := Lib.hid EB
  have B3 := Lib.hid (B2.out.trans (b3.mono (by omega)))
  clear hw3 TB EB b3 hY hsz t0 t1 t2 c0 c1 c2 c3 c4 c5 c6 XB2 RB2 HA2 HX2 B2
  obtain ⟨t0, t1, t2⟩ := box3 TB3.out
  have hob2 : ob.data.toList = x.text := by rw [← HOB.out]
  have hob3 : ob.size = x.text.length := by have := congrArg List.length hob2; rw [Array.length_toList] at this; exact this
  have hob4 : ob.size ≤ 9 := by have := HDG.out.2; omega
  have HO2 := Lib.hid hob2
  have HO3 := Lib.hid hob3
  clear hob2 hob3
  go_upto_region 30 with fail
  go_wp2_with fail
  go_loop [17, 18] (fun n i => ∃ (t : Nat), t ≤ ob.size ∧ i = .int .i64 t ∧ n = .int .i64 (PTree.numOf (x.text.take t) : Nat)) (fun _ i => ob.size - (intOf i).toNat)
  case atStart => exact ⟨0, Nat.zero_le _, rfl, rfl⟩
  case round =>
    obtain ⟨t, ht, rfl, rfl⟩ := hrel
    have hnl := PTree.numOf_less HDG.out.1 t (by have := HO3.out; omega)
    have hpw : 10 ^ t ≤ 10 ^ 9 := Nat.pow_le_pow_right (by omega) (by omega)
    obtain ⟨n, hn⟩ : ∃ n, PTree.numOf (x.text.take t) = n := ⟨_, rfl⟩
    have hn9 : n ≤ 1000000000 := by rw [← hn]; omega
    rw [hn]
    by_cases hlt : t < ob.size
    · have hlt2 : t < x.text.length := by have := HO3.out; omega
      have hnx := PTree.numOf_next hlt2
      have hby : ob[t] = x.text[t] := by
        have h1 : ob.data.toList[t]? = x.text[t]? := by rw [HO2.out]
        rw [Array.getElem?_toList, Array.getElem?_eq_getElem hlt, List.getElem?_eq_getElem hlt2] at h1
        exact Option.some.inj h1
      have hdg := HDG.out.1 _ (List.getElem_mem hlt2)
      rw [← hby] at hdg hnx
      obtain ⟨q, hq⟩ : ∃ q, ob[t].toNat = q := ⟨_, rfl⟩
      rw [hn] at hnx
      rw [hq] at hdg hnx
      obtain ⟨hq0, hq1⟩ := hdg
      have HNX := Lib.hid hnx
      clear hnx hby hn hnl hpw
      go_wp2_with fail
      refine ⟨⟨t + 1, by omega, rfl, ?_⟩, by simp [intOf]; omega⟩
      rw [HNX.out]
      refine congrArg (Value.int .i64) ?_
      omega
    · obtain rfl : t = ob.size := by omega
      have hnn : PTree.numOf x.text = n := by rw [← hn, HO3.out, List.take_length]
      have HNN := Lib.hid hnn
      clear hn hnn hnl hpw
      obtain ⟨e0, e1, e2, e3, e4, e5⟩ := box6 EB3.out
      obtain ⟨f0, f1, f2, f3, f4, f5⟩ := box6f EB3.out
      obtain ⟨w4, hw, eb, ON⟩ := store6 EB3.out (.string { data := #[119, 104, 111, 108, 101] }) (.string { data := #[] }) (.int .i64 n) (.int .i64 0) (.int .i64 0) (.int .i64 0)
      have EB4 := Lib.hid eb
      have HW := Lib.hid hw
      have XB4 := Lib.hid (XB3.out.only ON (by omega)); have RB4 := Lib.hid (RB3.out.only ON (by omega))
      have HA4 := Lib.hid (slt_at HA3.out LA.out (by omega) ON)
      have HX4 := Lib.hid (slr_at HX3.out LX.out (by omega) ON)
      have B4 := Lib.hid (ON.below (by omega) B3.out)
      clear hw eb ON XB3 RB3 HA3 HX3 EB3 B3
      go_upto_region 41 with fail
      rw [HW.out]
      clear HW e0 e1 e2 e3 e4 e5 f0 f1 f2 f3 f4 f5
      obtain ⟨c0, c1, c2, c3, c4, c5, c6⟩ := box7 XB4.out
      rw [HTA.out] at c0
      obtain ⟨f0, f1, f2, f3, f4, f5, f6⟩ := box7f XB4.out
      obtain ⟨e0, e1, e2, e3, e4, e5⟩ := box6 EB4.out
      go_upto_region 42 with fail
      obtain ⟨wa, hwa⟩ : ∃ w', w4.setCell ⟨L, 2, none⟩ (.int .i64 J) = w' := ⟨_, rfl⟩
      have ON : Only L w4 wa := by rw [← hwa]; exact (Only.refl L w4).set 2 _
      have XBa : Hid (Box wa L (sc c C xs.length k J 0 c.pl)) := Lib.hid (by rw [← hwa]; exact XB4.out.set 2 (by simp [sc, stC]) _)
      have RBa := Lib.hid (RB4.out.only ON (by omega))
      have EBa := Lib.hid (EB4.out.only ON (by omega))
      have HXa := Lib.hid (slr_only HX4.out XB4.out (sc_str _ _ _ _ _ _ _) ON)
      have Ba := Lib.hid (ON.below (Nat.le_refl _) B4.out)
      rw [hwa]
      clear hwa ON c0 c1 c2 c3 c4 c5 c6 f0 f1 f2 f3 f4 f5 f6 e0 e1 e2 e3 e4 e5 XB4 RB4 EB4 HA4 HX4 B4
      obtain ⟨c0, c1, c2, c3, c4, c5, c6⟩ := box7 XBa.out
      rw [HTA.out] at c0
      obtain ⟨e0, e1, e2, e3, e4, e5⟩ := box6 EBa.out
      have HP := r8put_any (w := wa) (A := some ⟨tb, toff, none⟩) (n := c.ls.length) (cap := c.cap) (B := c.B) (rn := c.rn) (rc := c.rc) (en := c.en) (er := 0) (pl := c.pl) (i := J) (y := ⟨[119, 104, 111, 108, 101], [], (n : Nat), 0, 0, 0⟩) HXa.out HC.out (by have := HB.out; omega)
      unfold stV exC at HP
      simp only [] at HP
      (try rw [HOB.out] at HP)
      have HP := Lib.hid HP
      go_wp2_with fail
      refine HP.out.mono ?_
      rintro _ wb ⟨CP, kP, rfl, hcP, hsP, b⟩
      have RBb := Lib.hid (RBa.out.on b); have HXb := Lib.hid hsP; have HCP := Lib.hid hcP
      have Bb := Lib.hid (Ba.out.trans (b.mono (Nat.le_of_lt XBa.out.1)))
      clear b hsP hcP HP c0 c1 c2 c3 c4 c5 c6 e0 e1 e2 e3 e4 e5 XBa RBa EBa HXa Ba
      obtain ⟨r0, r1, r2, r3, r4, r5, r6⟩ := box7 RBb.out
      obtain ⟨f0, f1, f2, f3, f4, f5, f6⟩ := box7f RBb.out
      obtain ⟨wz, hw, rb, ON⟩ := store7 RBb.out (.slice (some ⟨tb, toff, none⟩) c.ls.length c.cap) (.int .i64 c.en) (.int .i64 J) (.slice c.B c.rn c.rc) (.slice CP (xs.length + 1) kP) (.int .i64 0) (.int .i64 c.pl)
      obtain ⟨k0', k1', k2', k3', k4', k5', k6'⟩ := box7 rb
      rw [← hw] at k0' k1' k2' k3' k4' k5' k6'
      have HW := Lib.hid hw
      have HXZ := Lib.hid (slr_only HXb.out RBb.out zero_str ON)
      have BZ := Lib.hid (ON.below (Nat.le_succ L) Bb.out)
      clear hw rb ON HXb Bb
      go_wp2_with fail
      (try simp only [Exit.inBlock, Exit.then])
      refine bodyPost_ret (by simp [results, Tryz.results72, go_sem, k0', k1', k2', k3', k4', k5', k6']; try rfl) rfl ?_
      rw [← HQ.out, HW.out, ← HTA.out]
      refine ans_one (y := ⟨[119, 104, 111, 108, 101], [], (n : Nat), 0, 0, 0⟩) (t := .whole n) (J := J) ?_ rfl rfl (by have := JJ.out; have := HLT.out; omega) HCP.out HXZ.out (by have := HLT.out; have := HD.out; omega) (by rw [HLw.out]; exact BZ.out)
      rw [HE.out, JJ.out, HNN.out]
end Go.Proofs.YtdkcdgjpcojdfaaGreatDoor

namespace PLex
theorem Lone.five8 {k : Nat} {u : List UInt8} (h : Lone kindOf k u) : k = 1 ∨ k = 2 ∨ k = 3 ∨ k = 4 ∨ k = 5 := by
  obtain ⟨c, r, rfl, h1, ⟨h2, h3⟩, h4⟩ := h
  have e1 : (step kindOf (c :: r)).1 = k := by rw [h1]
  simp only [step] at e1
  by_cases g1 : c = 32 ∨ c = 10
  · rw [if_pos g1] at e1; simp only [] at e1; omega
  rw [if_neg g1, if_neg h4] at e1
  by_cases g2 : isLet c = true
  · rw [if_pos g2] at e1
    simp only [] at e1
    split at e1 <;> omega
  rw [if_neg g2] at e1
  by_cases g4 : isDig c = true
  · rw [if_pos g4] at e1
    simp only [] at e1
    unfold kindOf at e1
    (repeat' split at e1) <;> omega
  rw [if_neg g4] at e1
  by_cases g5 : isSgn c = true
  · rw [if_pos g5] at e1; simp only [] at e1; omega
  · rw [if_neg g5] at e1; simp only [] at e1; omega
end PLex
namespace Go.Proofs.YtdkcdgjpcojdfaaGreatDoor
open Go.RowKit
open PTree (R Ex Tr Md)

set_option maxHeartbeats 6400000 in
set_option maxRecDepth 100000 in
theorem leaf_end {c : Cfg} {d j : Nat} {xs : List Ex} {C : Option Addr} {k : Nat} {w : World} (hj : j = c.ls.length) (hd : d ≤ 20) (hA : SlT w c.A c.ls.length c.ls) (hX : SlE c.N w C xs.length xs) (hC : C = none → k = 0) :
    Calls Tryz.prog 72 #[sv c C xs.length k j 0 c.pl, .int .i64 d] w (Ans c xs (xs.length + (c.ls.length - j) + 5 * (22 - d)) (PTree.ex c.en .factor d (c.ls.drop j)) w) := by
  have H1 := Lib.hid (fun (w : World) (h : SlT w c.A c.ls.length c.ls) => r8text_any (cap := c.cap) (B := c.B) (C := C) (rn := c.rn) (rc := c.rc) (xn := xs.length) (xc := k) (en := c.en) (er := 0) (pl := c.pl) h (Nat.le_of_eq hj))
  have H2 := Lib.hid (fun (w : World) (h : SlT w c.A c.ls.length c.ls) => r8wrong_new (cap := c.cap) (B := c.B) (C := C) (rn := c.rn) (rc := c.rc) (xn := xs.length) (xc := k) (en := c.en) (e := 2) (pl := c.pl) h (Nat.le_of_eq hj))
  have hdr : c.ls.drop j = [] := List.drop_of_length_le (by omega)
  rw [hdr] at H1 H2
  rw [show PTree.placeOf c.en [] = c.en from rfl] at H2
  have hE : PTree.ex c.en .factor d (c.ls.drop j) = some (.bad 2 c.en) := by
    rw [hdr, PTree.ex_eq]; simp only [PTree.body]; rw [if_neg (by omega), if_neg (by decide), if_neg (by decide), if_neg (by decide)]
  have HE := Lib.hid hE
  have HA := Lib.hid hA
  have HX := Lib.hid hX
  have HC := Lib.hid hC
  have g20 : ¬ (20 : Int) < (d : Int) := by omega
  have gl : (c.ls.length : Int) ≤ (j : Int) := by omega
  clear hA hX hC hd hE hdr
  obtain ⟨Q, hQ⟩ : ∃ Q, Ans c xs (xs.length + (c.ls.length - j) + 5 * (22 - d)) (PTree.ex c.en .factor d (c.ls.drop j)) w = Q := ⟨_, rfl⟩
  rw [hQ]
  have HQ := Lib.hid hQ
  clear hQ hj
  unfold sv stV
  unfold stV at H1 H2
  go_enter Tryz.func72, Tryz.ntmps72
  go_upto_region 5 with fail
  obtain ⟨w1, hw1, XB, RB, b1, hs1⟩ := enter2 w 68 68 (sc c C xs.length k j 0 c.pl) zeroC
  unfold sc stC at hw1; unfold zeroC at hw1
  rw [hw1]
  obtain ⟨L, hL⟩ : ∃ L, w.heap.size = L := ⟨_, rfl⟩
  have HX1 := Lib.hid (HX.out.on b1)
  have HA1 := Lib.hid (HA.out.on b1)
  rw [hL] at XB RB hs1 b1 ⊢
  have XB1 := Lib.hid XB; have RB1 := Lib.hid RB; have B1 := Lib.hid b1; have HLw := Lib.hid hL
  clear hw1 hL b1 XB RB HX HA
  obtain ⟨c0, c1, c2, c3, c4, c5, c6⟩ := box7 XB1.out
  go_wp2_with fail
  refine (H1.out _ HA1.out).mono ?_
  rintro _ w2 ⟨rfl, b⟩
  have XB2 := Lib.hid (XB1.out.on b); have RB2 := Lib.hid (RB1.out.on b); have HA2 := Lib.hid (HA1.out.on b); have HX2 := Lib.hid (HX1.out.on b)
  have B2 := Lib.hid (B1.out.trans (b.mono (by omega)))
  clear b c0 c1 c2 c3 c4 c5 c6 XB1 RB1 HA1 HX1 B1 H1 hs1
  obtain ⟨c0, c1, c2, c3, c4, c5, c6⟩ := box7 XB2.out
  go_wp2_with fail
  refine (H2.out _ HA2.out).mono ?_
  rintro _ wa ⟨rfl, b⟩
  have RBa := Lib.hid (RB2.out.on b); have HXa := Lib.hid (HX2.out.on b)
  have Ba := Lib.hid (B2.out.trans (b.mono (Nat.le_of_lt XB2.out.1)))
  clear b H2 c0 c1 c2 c3 c4 c5 c6 XB2 RB2 HA2 HX2 B2
  obtain ⟨r0, r1, r2, r3, r4, r5, r6⟩ := box7 RBa.out
  obtain ⟨f0, f1, f2, f3, f4, f5, f6⟩ := box7f RBa.out
  obtain ⟨wz, hw, rb, ON⟩ := store7 RBa.out (.slice c.A c.ls.length c.cap) (.int .i64 c.en) (.int .i64 j) (.slice c.B c.rn c.rc) (.slice C xs.length k) (.int .i64 2) (.int .i64 c.en)
  obtain ⟨k0', k1', k2', k3', k4', k5', k6'⟩ := box7 rb
  rw [← hw] at k0' k1' k2' k3' k4' k5' k6'
  have HW := Lib.hid hw
  have HXZ := Lib.hid (slr_only HXa.out RBa.out zero_str ON)
  have BZ := Lib.hid (ON.below (Nat.le_succ L) Ba.out)
  clear hw rb ON HXa Ba
  go_wp2_with fail
  (try simp only [Exit.inBlock, Exit.then])
  refine bodyPost_ret (by simp [results, Tryz.results72, go_sem, k0', k1', k2', k3', k4', k5', k6']; try rfl) rfl ?_
  rw [← HQ.out, HW.out]
  exact ans_bad HE.out (.inl rfl) HC.out HXZ.out (by omega) (by rw [HLw.out]; exact BZ.out)

def TokOk (ls : List PLex.Tok) : Prop := ∀ x ∈ ls, PLex.Lone PLex.kindOf x.kind x.text ∧ x.text.length ≤ 1000
theorem factor_step {c : Cfg} {N : Nat} (hl : c.ls.length ≤ 1000) (ht : TokOk c.ls) (IW : WholeC c N) (IF : FactorC c N) : FactorC c (N + 1) := by
  intro d j xs C k w hN hj hd hA hX hC hB
  by_cases h20 : 20 < d
  · exact factor_deep hj h20 hA hX hC
  have hd' : d ≤ 20 := by omega
  by_cases hlt : j < c.ls.length
  · by_cases h1 : PTree.textOf (c.ls.drop j) = [45]
    · exact factor_neg hl IF hN hj hd' hA hX hC hB h1
    by_cases h2 : PTree.textOf (c.ls.drop j) = [40]
    · exact factor_par hl IW hN hj hd' hA hX hC hB h2
    by_cases h3 : PTree.textOf (c.ls.drop j) = [109, 105, 110]
    · exact factor_min hl IW hN hj hd' hA hX hC hB h3
    by_cases h4 : PTree.textOf (c.ls.drop j) = [109, 97, 120]
    · exact factor_max hl IW hN hj hd' hA hX hC hB h4
    obtain ⟨x, hx⟩ : ∃ x, c.ls[j] = x := ⟨_, rfl⟩
    obtain ⟨lo, le⟩ := ht c.ls[j] (List.getElem_mem hlt)
    rw [textOf_drop hlt] at h1 h2 h3 h4
    rw [hx] at lo le h1 h2 h3 h4
    rcases lo.five8 with e | e | e | e | e
    · rw [if_pos (.inl e)] at h1 h2 h3 h4
      by_cases hk : x.text ∈ PTree.takenL
      · exact leaf_taken hl hlt hx e hk h1 h2 h3 h4 hd' hA hX hC hB
      · exact leaf_name hl hlt hx e hk h1 h2 h3 h4 hd' hA hX hC hB
    · exact leaf_whole hl hlt hx e lo hd' hA hX hC hB
    · exact leaf_amount hl hlt hx e lo le hd' hA hX hC hB
    · exact leaf_rate hl hlt hx e lo le hd' hA hX hC hB
    · rw [if_pos (.inr e)] at h1 h2 h3 h4
      exact leaf_sign hl hlt hx e h1 h2 h3 h4 hd' hA hX hC hB
  · exact leaf_end (by omega) hd' hA hX hC
theorem r8_all {c : Cfg} (hl : c.ls.length ≤ 1000) (ht : TokOk c.ls) : ∀ N, WholeC c N ∧ ChainC c N ∧ FactorC c N
  | 0 => ⟨fun _ _ _ _ _ _ h => by omega, fun _ _ _ _ _ _ _ h => by omega, fun _ _ _ _ _ _ h => by omega⟩
  | N + 1 => by
    obtain ⟨h1, h2, h3⟩ := r8_all hl ht N
    exact ⟨whole_step hl h1 h2, chain_step hl h2 h3, factor_step hl ht h1 h3⟩
theorem r8whole_any {c : Cfg} (hl : c.ls.length ≤ 1000) (ht : TokOk c.ls) : WholeC c (10 * c.ls.length + 10) := (r8_all hl ht _).1
end Go.Proofs.YtdkcdgjpcojdfaaGreatDoor
