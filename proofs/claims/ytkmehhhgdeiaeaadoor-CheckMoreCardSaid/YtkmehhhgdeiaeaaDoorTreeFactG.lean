/-
  What the landed reader answers: a factor, by what reads its parts; and all of them.
-/
import Derived.Test.YtkmehhhgdeiaeaaDoorTreeStepG
namespace Go.Proofs.YtkmehhhgdeiaeaaDoor
open Go.RowKit
open PTree (R Ex Tr Md tx kd pl partsA flatL sizeL pos3)
variable {c : Rc} {w w' : World} {j : Nat} {xs : List Ex}

set_option maxRecDepth 100000 in
set_option maxHeartbeats 6400000 in
theorem fact_deep {d : Nat} (h : Rd c w j xs) (hd : 20 < d) :
    Calls Tryd.prog 67 #[c.p, .int .i64 d] w (RAns c xs (PTree.ex c.en .factor d (c.ls.drop j)) w) := by
  rw [PTree.ex_fdeep hd, PTree.pl_drop]
  have H := Lib.hid h
  have g20 : (20 : Int) < (d : Int) := by omega
  unfold Rc.p
  clear h hd
  go_enter Tryd.func67, Tryd.ntmps67
  go_wp2_with fail
  go_ret2
  exact ⟨_, _, rfl, rst_bad H.out (by decide), Below.refl _ _, Kp.refl _ _⟩
/-- What a factor's first token lies in: its box. -/
theorem fact_see (h : Rd c w j xs) (u : ByteArray) (hu : ({ data := (tx c.ls j).toArray } : ByteArray) = u) : ∃ (o n cp : Nat) (k p : Int) (w1 : World), 0 < n ∧ w.cell? ⟨c.H, 0, none⟩ = some (.slice (some ⟨c.b, o, none⟩) n cp) ∧ w.cell? ⟨c.b, o, none⟩ = some (.int .i64 k) ∧ w.cell? ⟨c.b, o + 1, none⟩ = some (.string u) ∧ w.cell? ⟨c.b, o + 2, none⟩ = some (.int .i64 p) ∧ c.H < w.heap.size ∧ c.b < w.heap.size ∧
    w.alloc (.cells #[.int .i64 k, .string u, .int .i64 p] 75) = w1 ∧ Rd c w1 j xs ∧ Box w1 w.heap.size [.int .i64 k, .string u, .int .i64 p] ∧ Fr c w1 w.heap.size ∧ Below c.H w w1 ∧ Kp c w w1 := by
  obtain ⟨o, n, cp, V, _, _, _, hn0, _, hb, t0, t1, t2⟩ := h.see
  obtain ⟨c0, c1⟩ := box2 hb
  rw [hu] at t1
  have b1 : Below w.heap.size w (w.alloc (.cells #[.int .i64 (kd c.ls j : Nat), .string u, .int .i64 (pl c.en c.ls j : Nat)] 75)) := (Below.refl _ _).alloc (Nat.le_refl _) _
  have B : Box (w.alloc (.cells #[.int .i64 (kd c.ls j : Nat), .string u, .int .i64 (pl c.en c.ls j : Nat)] 75)) w.heap.size [.int .i64 (kd c.ls j : Nat), .string u, .int .i64 (pl c.en c.ls j : Nat)] := Box.new w _ [.int .i64 (kd c.ls j : Nat), .string u, .int .i64 (pl c.en c.ls j : Nat)]
  exact ⟨o, n, cp, _, _, _, hn0, c0, t0, t1, t2, hb.1, World.block_lt_of_cell? w _ t1, rfl, h.on b1, B, h.fresh (Nat.le_refl _) B.1 b1, b1.mono (Nat.le_of_lt h.lt), Kp.below h.lt b1⟩
set_option maxRecDepth 100000 in
set_option maxHeartbeats 6400000 in
theorem fact_neg {N d : Nat} (ht : PTree.Toks c.ls) (IF : FactC c N) (h : Rd c w j xs) (hN : 10 * (c.ls.length - j) + 4 < N + 1) (hd : d ≤ 20) (hB : xs.length + (c.ls.length - j) ≤ 5000) (hx : tx c.ls j = [45]) :
    Calls Tryd.prog 67 #[c.p, .int .i64 d] w (RAns c xs (PTree.ex c.en .factor d (c.ls.drop j)) w) := by
  have htx := (PTree.textOf_tx ht j (u := [45]) ⟨_, _, rfl, rfl⟩).2 hx
  rw [PTree.ex_neg hd htx, List.tail_drop]
  obtain ⟨F, hF⟩ : ∃ F, (R.next (PTree.ex c.en .factor (d + 1) (c.ls.drop (j + 1))) fun t1 a => some (R.ok t1 (Tr.neg a))) = F := ⟨_, rfl⟩
  rw [hF]
  obtain ⟨Q, hQ⟩ : ∃ Q, RAns c xs F w = Q := ⟨_, rfl⟩
  rw [hQ]
  have HQ := Lib.hid hQ; have HF := Lib.hid hF
  have hjl := PTree.tx_pos (ls := c.ls) (j := j) (by rw [hx]; exact List.cons_ne_nil _ _)
  obtain ⟨o, n, cp, k, p, w1, hn0, c0, t0, t1, t2, hsz, hz, hw1, R1, XB, FX, b1, k1⟩ := fact_see h ⟨#[45]⟩ (by rw [hx])
  obtain ⟨D, hD⟩ : ∃ D, D = d + 1 := ⟨_, rfl⟩
  have gD : (d : Int) + 1 = (D : Int) := by omega
  have g20 : ¬ (20 : Int) < (d : Int) := by omega
  have HS := skip_any R1 hjl
  have HI := Lib.hid (fun w' h' => IF D (j + 1) xs w' (by omega) (by omega) h' (by omega))
  rw [← hD] at HF
  have B1 := Lib.hid b1; have K1 := Lib.hid k1
  obtain ⟨x0, x1, x2⟩ := box3 XB
  have hxs := XB.1
  have HB := Lib.hid hB; have HJ := Lib.hid hjl
  unfold Rc.p at *
  have HS := Lib.hid HS; have HD := Lib.hid hD
  clear h hx htx hF hQ hN hB hd ht IF hD b1 k1 R1 XB FX hjl
  go_enter Tryd.func67, Tryd.ntmps67
  go_upto_region 4 with fail
  clear hw1 c0 t0 t1 t2 hz
  go_wp2_with fail
  refine HS.out.mono ?_
  rintro _ w2 ⟨rfl, R2, b2, k2⟩
  have HI2 := Lib.hid (HI.out w2 R2)
  have B2 := Lib.hid (B1.out.trans b2); have K2 := Lib.hid (K1.out.trans k2)
  clear HS HI R2 b2 k2 B1 K1 x0 x1 x2 hxs hsz
  go_wp2_with fail
  refine HI2.out.mono ?_
  rintro _ w3 ⟨a, er, rfl, st, b3, k3⟩
  have B3 := Lib.hid (B2.out.trans b3); have K3 := Lib.hid (K2.out.trans k3)
  clear HI2 b3 k3 B2 K2
  rcases st.split with ⟨he, _⟩ | ⟨rfl, j3, t, hr, R3, rfl⟩
  · have FIN : Hid (RSt c xs F 0 er w3) := Lib.hid (by rw [← HF.out]; exact st.next he _ _)
    have e1 : (er != 0) = true := by rw [bne_iff_ne]; exact he
    clear st he
    go_wp2_with fail
    rw [← HQ.out]
    exact ⟨_, _, rfl, FIN.out, B3.out, K3.out⟩
  · have hfew := few_at rfl hr
    rw [hr] at HF
    obtain ⟨A, hA⟩ : ∃ A : Nat, (xs.length + t.size - 1 : Nat) = A := ⟨_, rfl⟩
    have HP := put_any R3 ⟨[110, 101, 103], [], 0, A, 0, 0⟩ (by rw [List.length_append, Tr.flat_len]; have := HB.out; have := HJ.out; omega)
    rw [hA]
    unfold exC Rc.p at HP
    have HP := Lib.hid HP
    have HA := Lib.hid hA
    clear st hr R3 hfew hA
    go_wp2_with fail
    refine HP.out.mono ?_
    rintro _ w4 ⟨rfl, R4, b4, k4⟩
    have R4 := Lib.hid R4; have B4 := Lib.hid (B3.out.trans b4); have K4 := Lib.hid (K3.out.trans k4)
    clear HP b4 k4 B3 K3
    go_wp2_with fail
    rw [← HQ.out, ← HF.out]
    refine ⟨_, _, rfl, ⟨j3, _, R4.out, rfl, rfl, ?_, ?_⟩, B4.out, K4.out⟩
    · rw [← HA.out]; simp only [Tr.flat, List.append_assoc]
    · rw [Tr.flat_len]; simp only [Tr.size]; omega
set_option maxRecDepth 100000 in
set_option maxHeartbeats 6400000 in
theorem inner_any {N d : Nat} (ht : PTree.Toks c.ls) (IE : ExprC c N) (h : Rd c w j xs) (hN : 10 * (c.ls.length - j) + 4 < N + 1) (hd : d ≤ 20) (hB : xs.length + (c.ls.length - j) ≤ 5000) (hj : j < c.ls.length) :
    Calls Tryd.prog 69 #[c.p, .int .i64 d] w (RAns c xs (rclosed c.en (PTree.ex c.en .whole (d + 1) (c.ls.drop (j + 1)))) w) := by
  obtain ⟨r, hr⟩ : ∃ r, PTree.ex c.en .whole (d + 1) (c.ls.drop (j + 1)) = r := ⟨_, rfl⟩
  rw [hr]
  obtain ⟨D, hD⟩ : ∃ D, D = d + 1 := ⟨_, rfl⟩
  have gD : (d : Int) + 1 = (D : Int) := by omega
  have gd : (d : Int) ≤ 20 := by omega
  have HS := skip_any h hj
  have HI := Lib.hid (fun w' h' => IE D (j + 1) xs w' (by omega) (by omega) h' (by omega))
  rw [hD, hr, ← hD] at HI
  have HT := Lib.hid ht
  unfold Rc.p at *
  have HS := Lib.hid HS
  clear h hN hd hB hj hr IE hD ht
  go_enter Tryd.func69, Tryd.ntmps69
  go_wp2_with fail
  refine HS.out.mono ?_
  rintro _ w2 ⟨rfl, R2, b2, k2⟩
  have HI2 := Lib.hid (HI.out w2 R2)
  have B2 := Lib.hid b2; have K2 := Lib.hid k2
  clear HS HI R2 b2 k2
  go_wp2_with fail
  refine HI2.out.mono ?_
  rintro _ w3 ⟨a, er, rfl, st, b3, k3⟩
  have HC := closed_any HT.out st
  unfold Rc.p at HC
  have HC := Lib.hid HC
  have B3 := Lib.hid (B2.out.trans b3); have K3 := Lib.hid (K2.out.trans k3)
  clear HI2 b3 k3 B2 K2 st
  go_wp2_with fail
  refine HC.out.mono ?_
  rintro _ w4 ⟨a, er, rfl, st, b4, k4⟩
  have ST := Lib.hid st; have B4 := Lib.hid (B3.out.trans b4); have K4 := Lib.hid (K3.out.trans k4)
  clear HC st b4 k4 B3 K3
  go_wp2_with fail
  go_ret2
  exact ⟨_, _, rfl, ST.out, B4.out, K4.out⟩
set_option maxRecDepth 100000 in
set_option maxHeartbeats 6400000 in
theorem fact_par {N d : Nat} (ht : PTree.Toks c.ls) (IE : ExprC c N) (h : Rd c w j xs) (hN : 10 * (c.ls.length - j) + 4 < N + 1) (hd : d ≤ 20) (hB : xs.length + (c.ls.length - j) ≤ 5000) (hx : tx c.ls j = [40]) :
    Calls Tryd.prog 67 #[c.p, .int .i64 d] w (RAns c xs (PTree.ex c.en .factor d (c.ls.drop j)) w) := by
  have htx := (PTree.textOf_tx ht j (u := [40]) ⟨_, _, rfl, rfl⟩).2 hx
  rw [PTree.ex_par hd htx, List.tail_drop]
  have hjl := PTree.tx_pos (ls := c.ls) (j := j) (by rw [hx]; exact List.cons_ne_nil _ _)
  obtain ⟨o, n, cp, k, p, w1, hn0, c0, t0, t1, t2, hsz, hz, hw1, R1, XB, FX, b1, k1⟩ := fact_see h ⟨#[40]⟩ (by rw [hx])
  have g20 : ¬ (20 : Int) < (d : Int) := by omega
  have HS := inner_any ht IE R1 hN hd hB hjl
  unfold rclosed at HS
  obtain ⟨F, hF⟩ : ∃ F, (R.next (PTree.ex c.en .whole (d + 1) (c.ls.drop (j + 1))) fun ts t => R.next (PTree.must c.en [41] ts) fun t1 _ => some (R.ok t1 t)) = F := ⟨_, rfl⟩
  rw [hF] at HS ⊢
  have B1 := Lib.hid b1; have K1 := Lib.hid k1
  obtain ⟨x0, x1, x2⟩ := box3 XB
  have hxs := XB.1
  unfold Rc.p at *
  have HS := Lib.hid HS
  clear h hx htx hN hB hd ht IE b1 k1 R1 XB FX hjl hF
  go_enter Tryd.func67, Tryd.ntmps67
  go_upto_region 4 with fail
  clear hw1 c0 t0 t1 t2 hz
  go_wp2_with fail
  refine HS.out.mono ?_
  rintro _ w2 ⟨a, er, rfl, st, b2, k2⟩
  have ST := Lib.hid st; have B2 := Lib.hid (B1.out.trans b2); have K2 := Lib.hid (K1.out.trans k2)
  clear HS st b2 k2 B1 K1 x0 x1 x2 hxs hsz
  go_wp2_with fail
  go_ret2
  exact ⟨_, _, rfl, ST.out, B2.out, K2.out⟩
set_option maxRecDepth 100000 in
set_option maxHeartbeats 6400000 in
theorem fact_leaf {d : Nat} (ht : PTree.Toks c.ls) (h : Rd c w j xs) (hd : d ≤ 20) (hB : xs.length + (c.ls.length - j) ≤ 5000) (h1 : tx c.ls j ≠ [45]) (h2 : tx c.ls j ≠ [40]) (h3 : tx c.ls j ≠ [109, 105, 110]) (h4 : tx c.ls j ≠ [109, 97, 120]) :
    Calls Tryd.prog 67 #[c.p, .int .i64 d] w (RAns c xs (PTree.ex c.en .factor d (c.ls.drop j)) w) := by
  have hE : PTree.ex c.en .factor d (c.ls.drop j) = rleaf c.en c.ls j := PTree.ex_leaf hd (fun k => h1 ((PTree.textOf_tx ht j (u := [45]) ⟨_, _, rfl, rfl⟩).1 k)) (fun k => h2 ((PTree.textOf_tx ht j (u := [40]) ⟨_, _, rfl, rfl⟩).1 k)) (fun k => h3 ((PTree.textOf_tx ht j (u := [109, 105, 110]) ⟨_, _, rfl, rfl⟩).1 k)) (fun k => h4 ((PTree.textOf_tx ht j (u := [109, 97, 120]) ⟨_, _, rfl, rfl⟩).1 k))
  rw [hE]
  obtain ⟨tb, htb⟩ : ∃ b, ({ data := (tx c.ls j).toArray } : ByteArray) = b := ⟨_, rfl⟩
  have htl : tb.data.toList = tx c.ls j := by rw [← htb]
  obtain ⟨o, n, cp, k, p, w1, hn0, c0, t0, t1, t2, hsz, hz, hw1, R1, XB, FX, b1, k1⟩ := fact_see h tb htb
  have g20 : ¬ (20 : Int) < (d : Int) := by omega
  have g1 : (tb.toList == [45]) = false := bn (by rw [htl]; exact h1)
  have g2 : (tb.toList == [40]) = false := bn (by rw [htl]; exact h2)
  have g3 : (tb.toList == [109, 105, 110]) = false := bn (by rw [htl]; exact h3)
  have g4 : (tb.toList == [109, 97, 120]) = false := bn (by rw [htl]; exact h4)
  have HS := leaf_any ht R1 (by omega)
  have B1 := Lib.hid b1; have K1 := Lib.hid k1
  obtain ⟨x0, x1, x2⟩ := box3 XB
  have hxs := XB.1
  unfold Rc.p at *
  have HS := Lib.hid HS
  clear h hB hd ht b1 k1 R1 XB FX hE htb htl h1 h2 h3 h4
  go_enter Tryd.func67, Tryd.ntmps67
  go_upto_region 4 with fail
  clear hw1 c0 t0 t1 t2 hz
  go_wp2_with fail
  refine HS.out.mono ?_
  rintro _ w2 ⟨a, er, rfl, st, b2, k2⟩
  have ST := Lib.hid st; have B2 := Lib.hid (B1.out.trans b2); have K2 := Lib.hid (K1.out.trans k2)
  clear HS st b2 k2 B1 K1 x0 x1 x2 hxs hsz
  go_wp2_with fail
  go_ret2
  exact ⟨_, _, rfl, ST.out, B2.out, K2.out⟩
set_option maxRecDepth 100000 in
set_option maxHeartbeats 6400000 in
theorem fact_min {N d : Nat} (ht : PTree.Toks c.ls) (IE : ExprC c N) (h : Rd c w j xs) (hN : 10 * (c.ls.length - j) + 4 < N + 1) (hd : d ≤ 20) (hB : xs.length + (c.ls.length - j) ≤ 5000) {u : List UInt8} (hu : u = [109, 105, 110] ∨ u = [109, 97, 120]) (hx : tx c.ls j = u) :
    Calls Tryd.prog 67 #[c.p, .int .i64 d] w (RAns c xs (PTree.ex c.en .factor d (c.ls.drop j)) w) := by
  have hw : PTree.Wd u := by rcases hu with rfl | rfl <;> exact ⟨_, _, rfl, rfl⟩
  have htx := (PTree.textOf_tx ht j hw).2 hx
  rw [PTree.ex_min hd (by rw [htx]; exact hu), List.tail_drop, htx]
  have hjl := PTree.tx_pos (ls := c.ls) (j := j) (by rw [hx]; exact hw.ne)
  obtain ⟨tb, htb⟩ : ∃ b, ({ data := u.toArray } : ByteArray) = b := ⟨_, rfl⟩
  have htl : tb.data.toList = u := by rw [← htb]
  obtain ⟨o, n, cp, k, p, w1, hn0, c0, t0, t1, t2, hsz, hz, hw1, R1, XB, FX, b1, k1⟩ := fact_see h tb (by rw [hx]; exact htb)
  have g20 : ¬ (20 : Int) < (d : Int) := by omega
  have g1 : (tb.toList == [45]) = false := bn (by rw [htl]; rcases hu with rfl | rfl <;> decide)
  have g2 : (tb.toList == [40]) = false := bn (by rw [htl]; rcases hu with rfl | rfl <;> decide)
  have g3 : (tb.toList == [109, 105, 110]) = true ∨ ((tb.toList == [109, 105, 110]) = false ∧ (tb.toList == [109, 97, 120]) = true) := by
    rcases hu with rfl | rfl
    · exact .inl (bq htl)
    · exact .inr ⟨bn (by rw [htl]; decide), bq htl⟩
  have HS := skip_any R1 hjl
  obtain ⟨F, hF⟩ : ∃ F, (R.next (R.next (partsA c.en d PTree.minW [] (c.ls.drop (j + 1))) fun t l => some (R.ok t (PTree.bin2 u l))) fun t1 a => R.next (PTree.must c.en [41] t1) fun t2 _ => some (R.ok t2 a)) = F := ⟨_, rfl⟩
  rw [hF]
  have HF := Lib.hid hF
  have B1 := Lib.hid b1; have K1 := Lib.hid k1; have FX := Lib.hid FX; have XB := Lib.hid XB
  have HR1 := Lib.hid R1.lt
  obtain ⟨x0, x1, x2⟩ := box3 XB.out
  have hxs := XB.out.1
  have hd2 : (d : Int) ≤ 20 := by omega
  have HFM := Lib.hid (fun (w2 : World) (R2 : Rd c w2 (j + 1) xs) => form_any (u := u) (d := d) ht IE (R2.on ((Below.refl w2.heap.size w2).alloc (Nat.le_refl _) (.cells (strC PTree.minW).toArray 9))) (Box.new w2 9 (strC PTree.minW)) (R2.fresh (Nat.le_refl _) (Box.new w2 9 (strC PTree.minW)).1 ((Below.refl w2.heap.size w2).alloc (Nat.le_refl _) _)) (by decide) (fun s hs => by
    simp only [PTree.minW, List.mem_cons, List.not_mem_nil, or_false] at hs
    rcases hs with rfl | rfl <;> exact ⟨_, _, rfl, rfl⟩) (by omega) hd (by omega))
  rw [htb] at HFM
  have HT := Lib.hid ht
  unfold Rc.p at *
  have HS := Lib.hid HS
  clear h hx htx hN hB hd ht IE b1 k1 R1 hjl hF hw hu htb htl
  rcases g3 with g3 | ⟨g3, g4⟩
  all_goals
    go_enter Tryd.func67, Tryd.ntmps67
    go_upto_region 4 with fail
    clear hw1 c0 t0 t1 t2 hz
    go_wp2_with fail
    refine HS.out.mono ?_
    rintro _ w2 ⟨rfl, R2, b2, k2⟩
    have XB2 := XB.out.kp FX.out k2
    clear x0 x1 x2 hxs
    obtain ⟨x0, x1, x2⟩ := box3 XB2
    have hxs := XB2.1
    have hFM := HFM.out w2 R2
    have B2 := Lib.hid (B1.out.trans b2); have K2 := Lib.hid (K1.out.trans k2)
    have HR2 := Lib.hid R2.lt
    have hstr : (Obj.cells (strC PTree.minW).toArray 9) = .cells #[.string { data := #[40] }, .string { data := #[44] }] 9 := rfl
    rw [hstr, show PTree.minW.length = 2 from rfl] at hFM
    have HFM2 := Lib.hid hFM
    clear HS HFM R2 b2 k2 B1 K1 XB2 XB FX hFM hstr HR1
    go_wp2_with fail
    refine HFM2.out.mono ?_
    rintro _ w3 h3
    obtain ⟨a, er, rfl, st, b3, k3⟩ := fans_any (g := PTree.bin2 u) h3 (fun ts l e => bin_row (PTree.partsA_len e) _)
    have hb0 := (Below.refl w2.heap.size w2).alloc (Nat.le_refl _) (.cells #[.string { data := #[40] }, .string { data := #[44] }] 9)
    have B3 := Lib.hid ((B2.out.trans (hb0.mono (Nat.le_of_lt HR2.out))).trans b3); have K3 := Lib.hid ((K2.out.trans (Kp.below HR2.out hb0)).trans k3)
    have HC := closed_any HT.out st
    unfold rclosed at HC
    rw [HF.out] at HC
    unfold Rc.p at HC
    have HC := Lib.hid HC
    clear HFM2 h3 st b3 k3 B2 K2 x0 x1 x2 hxs hb0 HR2
    go_wp2_with fail
    refine HC.out.mono ?_
    rintro _ w4 ⟨a, er, rfl, st, b4, k4⟩
    have ST := Lib.hid st; have B4 := Lib.hid (B3.out.trans b4); have K4 := Lib.hid (K3.out.trans k4)
    clear HC st b4 k4 B3 K3
    go_wp2_with fail
    go_ret2
    exact ⟨_, _, rfl, ST.out, B4.out, K4.out⟩
theorem fact_step {N d : Nat} (ht : PTree.Toks c.ls) (IE : ExprC c N) (IF : FactC c N) (h : Rd c w j xs) (hN : 10 * (c.ls.length - j) + 4 < N + 1) (hB : xs.length + (c.ls.length - j) ≤ 5000) :
    Calls Tryd.prog 67 #[c.p, .int .i64 d] w (RAns c xs (PTree.ex c.en .factor d (c.ls.drop j)) w) := by
  by_cases hd : 20 < d
  · exact fact_deep h hd
  by_cases h1 : tx c.ls j = [45]
  · exact fact_neg ht IF h hN (by omega) hB h1
  by_cases h2 : tx c.ls j = [40]
  · exact fact_par ht IE h hN (by omega) hB h2
  by_cases h3 : tx c.ls j = [109, 105, 110]
  · exact fact_min ht IE h hN (by omega) hB (.inl rfl) h3
  by_cases h4 : tx c.ls j = [109, 97, 120]
  · exact fact_min ht IE h hN (by omega) hB (.inr rfl) h4
  exact fact_leaf ht h (by omega) hB h1 h2 h3 h4
theorem expr_step {N d : Nat} (ht : PTree.Toks c.ls) (IE : ExprC c N) (IS : SumC c N) (h : Rd c w j xs) (hN : 10 * (c.ls.length - j) + 9 < N + 1) (hB : xs.length + (c.ls.length - j) ≤ 5000) :
    Calls Tryd.prog 40 #[c.p, .int .i64 d] w (RAns c xs (PTree.ex c.en .whole d (c.ls.drop j)) w) := by
  by_cases hd : 20 < d
  · exact expr_deep h hd
  by_cases h1 : tx c.ls j = [105, 102]
  · exact expr_if ht IE h hN (by omega) hB h1
  · exact expr_sum ht IS h hN (by omega) hB h1
theorem tree_all {c : Rc} (ht : PTree.Toks c.ls) : ∀ N, ExprC c N ∧ SumC c N ∧ ProdC c N ∧ FactC c N
  | 0 => ⟨fun _ _ _ _ h => by omega, fun _ _ _ _ h => by omega, fun _ _ _ _ h => by omega, fun _ _ _ _ h => by omega⟩
  | N + 1 => by
    obtain ⟨h1, h2, h3, h4⟩ := tree_all ht N
    exact ⟨fun d j xs w hN _ hR hB => expr_step ht h1 h2 hR hN hB, fun d j xs w hN hd hR hB => sum_step ht h3 hR hN hd hB, fun d j xs w hN hd hR hB => prod_step ht h4 hR hN hd hB, fun d j xs w hN _ hR hB => fact_step ht h1 h4 hR hN hB⟩
/-- What an expression is read to, from a place on. -/
theorem expr_any {c : Rc} (ht : PTree.Toks c.ls) {d j : Nat} {xs : List Ex} {w : World} (hd : d ≤ 21) (h : Rd c w j xs) (hB : xs.length + (c.ls.length - j) ≤ 5000) :
    Calls Tryd.prog 40 #[c.p, .int .i64 d] w (RAns c xs (PTree.ex c.en .whole d (c.ls.drop j)) w) := (tree_all ht (10 * (c.ls.length - j) + 10)).1 d j xs w (by omega) hd h hB
end Go.Proofs.YtkmehhhgdeiaeaaDoor
