/-
  What the landed reader answers: an expression and a factor, by what reads their parts.
-/
import Derived.Test.YtkmehhhgdeiaeaaDoorTreeExprG
namespace Go.Proofs.YtkmehhhgdeiaeaaDoor
open Go.RowKit
open PTree (R Ex Tr Md tx kd pl partsA flatL sizeL pos3)
variable {c : Rc} {w w' : World} {j : Nat} {xs : List Ex}

theorem few_at {m : Md} (hm : m.sz = 0) {en d : Nat} {ls : List PLex.Tok} {j : Nat} {ts : List PLex.Tok} {t : Tr} (h : PTree.ex en m d (ls.drop j) = some (.ok ts t)) : t.size + ts.length ≤ ls.length - j := by
  have := PTree.ex_few en m d (ls.drop j) _ _ h
  rw [hm, List.length_drop, Nat.zero_add] at this; exact this
set_option maxRecDepth 100000 in
set_option maxHeartbeats 6400000 in
theorem expr_if {N d : Nat} (ht : PTree.Toks c.ls) (IE : ExprC c N) (h : Rd c w j xs) (hN : 10 * (c.ls.length - j) + 9 < N + 1) (hd : d ≤ 20) (hB : xs.length + (c.ls.length - j) ≤ 5000) (hx : tx c.ls j = [105, 102]) :
    Calls Tryd.prog 40 #[c.p, .int .i64 d] w (RAns c xs (PTree.ex c.en .whole d (c.ls.drop j)) w) := by
  have htx := (PTree.textOf_tx ht j (u := [105, 102]) ⟨_, _, rfl, rfl⟩).2 hx
  rw [PTree.ex_if hd htx]
  obtain ⟨Q, hQ⟩ : ∃ Q, RAns c xs (R.next (partsA c.en d PTree.ifW [] (c.ls.drop j)) fun t l => some (.ok t (PTree.cond3 l))) w = Q := ⟨_, rfl⟩
  rw [hQ]
  have HQ := Lib.hid hQ
  obtain ⟨o, n, cp, V, _, _, _, hn0, _, hb, t0, t1, t2⟩ := h.see
  obtain ⟨c0, c1⟩ := box2 hb
  have hsz := hb.1
  have hz := World.block_lt_of_cell? w _ t1
  rw [hx] at t1
  have b1 : Below w.heap.size w (w.alloc (.cells (strC PTree.ifW).toArray 9)) := (Below.refl _ _).alloc (Nat.le_refl _) _
  have W1 : Box (w.alloc (.cells (strC PTree.ifW).toArray 9)) w.heap.size (strC PTree.ifW) := Box.new w _ _
  have HF := form_any (u := [105, 102]) (d := d) ht IE (h.on b1) W1 (h.fresh (Nat.le_refl _) W1.1 b1) (by decide) (fun s hs => by
    simp only [PTree.ifW, List.mem_cons, List.not_mem_nil, or_false] at hs
    rcases hs with rfl | rfl | rfl <;> exact ⟨_, _, rfl, rfl⟩) (by omega) hd hB
  have HB1 := Lib.hid (b1.mono (Nat.le_of_lt h.lt))
  have HK1 := Lib.hid (Kp.below h.lt b1)
  have g20 : ¬ (20 : Int) < (d : Int) := by omega
  unfold Rc.p at *
  have HF := Lib.hid HF
  clear hb h hx htx hQ hN hB b1 W1 hd
  go_enter Tryd.func40, Tryd.ntmps40
  go_wp2_with fail
  refine HF.out.mono ?_
  rintro e2 w2 h2
  obtain ⟨a, er, rfl, st, b2, k2⟩ := fans_any (g := PTree.cond3) h2 (fun ts l e => cond_row (PTree.partsA_len e) _)
  have ST := Lib.hid st; have B2 := Lib.hid (HB1.out.trans b2); have K2 := Lib.hid (HK1.out.trans k2)
  clear h2 st b2 k2 HF HB1 HK1 c0 c1 t0 t1 t2 hsz hz
  go_wp2_with fail
  rw [← HQ.out]
  exact ⟨_, _, rfl, ST.out, B2.out, K2.out⟩
set_option maxRecDepth 100000 in
set_option maxHeartbeats 6400000 in
theorem expr_deep {d : Nat} (h : Rd c w j xs) (hd : 20 < d) :
    Calls Tryd.prog 40 #[c.p, .int .i64 d] w (RAns c xs (PTree.ex c.en .whole d (c.ls.drop j)) w) := by
  rw [PTree.ex_deep hd, PTree.pl_drop]
  have H := Lib.hid h
  have g20 : (20 : Int) < (d : Int) := by omega
  unfold Rc.p
  clear h hd
  go_enter Tryd.func40, Tryd.ntmps40
  go_wp2_with fail
  go_ret2
  exact ⟨_, _, rfl, rst_bad H.out (by decide), Below.refl _ _, Kp.refl _ _⟩
set_option maxRecDepth 100000 in
set_option maxHeartbeats 6400000 in
theorem expr_sum {N d : Nat} (ht : PTree.Toks c.ls) (IS : SumC c N) (h : Rd c w j xs) (hN : 10 * (c.ls.length - j) + 9 < N + 1) (hd : d ≤ 20) (hB : xs.length + (c.ls.length - j) ≤ 5000) (hx : tx c.ls j ≠ [105, 102]) :
    Calls Tryd.prog 40 #[c.p, .int .i64 d] w (RAns c xs (PTree.ex c.en .whole d (c.ls.drop j)) w) := by
  have htx : PTree.textOf (c.ls.drop j) ≠ [105, 102] := fun k => hx ((PTree.textOf_tx ht j (u := [105, 102]) ⟨_, _, rfl, rfl⟩).1 k)
  rw [PTree.ex_chain0 hd htx]
  obtain ⟨F, hF⟩ : ∃ F, (R.next (PTree.ex c.en (.chain 1) d (c.ls.drop j)) fun t1 a => PTree.ex c.en (.more 0 a) d t1) = F := ⟨_, rfl⟩
  rw [hF]
  obtain ⟨Q, hQ⟩ : ∃ Q, RAns c xs F w = Q := ⟨_, rfl⟩
  rw [hQ]
  have HQ := Lib.hid hQ; have HF := Lib.hid hF
  obtain ⟨o, n, cp, V, _, _, _, hn0, _, hb, t0, t1, t2⟩ := h.see
  obtain ⟨c0, c1⟩ := box2 hb
  have hsz := hb.1
  have hz := World.block_lt_of_cell? w _ t1
  obtain ⟨tb, htb⟩ : ∃ b, ({ data := (tx c.ls j).toArray } : ByteArray) = b := ⟨_, rfl⟩
  have g1 : (tb.toList == [105, 102]) = false := bn (by rw [← htb]; exact hx)
  rw [htb] at t1
  have HS := IS d j xs w (by omega) (by omega) h hB
  have g20 : ¬ (20 : Int) < (d : Int) := by omega
  unfold Rc.p at *
  have HS := Lib.hid HS; have IS := Lib.hid IS; have HN := Lib.hid hN; have HB := Lib.hid hB; have HD := Lib.hid hd; have HT := Lib.hid ht; have HL0 := Lib.hid h.le
  clear hb h hx htx hQ hF hN hB hd htb ht
  go_enter Tryd.func40, Tryd.ntmps40
  go_wp2_with fail
  refine HS.out.mono ?_
  rintro _ w2 ⟨a, er, rfl, st, b2, k2⟩
  have B2 := Lib.hid b2; have K2 := Lib.hid k2
  clear HS b2 k2 t0 t1 t2 c0 c1 hsz hz g1
  rcases st.split with ⟨he, _⟩ | ⟨rfl, j2, t, hr, R2, rfl⟩
  · have FIN : Hid (RSt c xs F a er w2) := Lib.hid (by rw [← HF.out]; exact st.next he _ _)
    have e1 : (er != 0) = true := by rw [bne_iff_ne]; exact he
    clear st he
    go_wp2_with fail
    rw [← HQ.out]
    exact ⟨_, _, rfl, FIN.out, B2.out, K2.out⟩
  · have hsee := R2.see
    obtain ⟨o, n, cp, V, _, _, _, hn0, _, hb, t0, t1, t2⟩ := hsee
    obtain ⟨c0, c1⟩ := box2 hb
    have hsz := hb.1
    have hz := World.block_lt_of_cell? w2 _ t1
    obtain ⟨tb, htb⟩ : ∃ b, ({ data := (tx c.ls j2).toArray } : ByteArray) = b := ⟨_, rfl⟩
    have htl : tb.data.toList = tx c.ls j2 := by rw [← htb]
    have HC := Lib.hid (fun w => cmp_any tb w)
    rw [htl] at HC
    rw [htb] at t1
    have hfew := few_at rfl hr
    have hj2 := R2.le
    rw [List.length_drop] at hfew
    have hFF := HF.out
    rw [hr] at hFF
    replace hFF : PTree.ex c.en (.more 0 t) d (c.ls.drop j2) = F := hFF
    obtain ⟨A, hA⟩ : ∃ A : Nat, (xs.length + t.size - 1 : Nat) = A := ⟨_, rfl⟩
    by_cases hin : tx c.ls j2 ∈ PTree.level 0
    · rw [decide_eq_true hin] at HC
      have htx := PTree.lvl_tx HT.out hin
      rw [PTree.more_first (by rw [htx]; exact hin), List.tail_drop, htx] at hFF
      have hne := (PTree.lvl_wd hin).ne
      have hjl := PTree.tx_pos hne
      have hlen : (xs ++ t.flat xs.length).length = xs.length + t.size := by rw [List.length_append, Tr.flat_len]
      have HS2 := second_any (F := 52) (d := d) (ta := t) (r := PTree.ex c.en (.chain 1) d (c.ls.drop (j2 + 1))) R2 rfl hne ent_sum (fun w' h' => IS.out d (j2 + 1) _ w' (by have := HN.out; omega) (by have := HD.out; omega) h' (by rw [hlen]; have := HB.out; omega)) (fun ts b e => by
        have := few_at rfl e
        rw [hlen]; have := HB.out; omega)
      rw [hFF, hA] at HS2
      rw [hA]
      unfold Rc.p at HS2
      have HS2 := Lib.hid HS2
      clear st hr R2 hb htb htl hfew hj2 hFF hA hin htx hne hjl hlen
      go_wp2_with fail
      refine (HC.out _).mono ?_
      rintro _ _ ⟨rfl, rfl⟩
      go_wp2_with fail
      refine HS2.out.mono ?_
      rintro _ w3 ⟨a, er, rfl, st, b3, k3⟩
      have ST := Lib.hid st; have B3 := Lib.hid (B2.out.trans b3); have K3 := Lib.hid (K2.out.trans k3)
      clear HS2 st b3 k3 B2 K2 t0 t1 t2 c0 c1 hsz hz HC
      go_wp2_with fail
      rw [← HQ.out]
      exact ⟨_, _, rfl, ST.out, B3.out, K3.out⟩
    · rw [decide_eq_false hin] at HC
      rw [PTree.more_no (PTree.lvl_tx' HT.out hin)] at hFF
      have FIN : Hid (RSt c xs F (A : Nat) 0 w2) := Lib.hid (by
        rw [← hFF, ← hA]; exact ⟨j2, _, R2, rfl, rfl, rfl, rfl⟩)
      rw [hA]
      clear st hr R2 hb htb htl hfew hj2 hFF hA hin
      go_wp2_with fail
      refine (HC.out _).mono ?_
      rintro _ _ ⟨rfl, rfl⟩
      go_wp2_with fail
      rw [← HQ.out]
      exact ⟨_, _, rfl, FIN.out, B2.out, K2.out⟩
/-- How many tokens are left. -/
def leftN (H : Nat) (w : World) : Nat := match w.cell? ⟨H, 0, none⟩ with
  | some (.slice _ n _) => n
  | _ => 0
/-- How much is left to do, where nothing is wrong. -/
def leftM (v : Value) (H : Nat) (w : World) : Nat := if intOf v = 0 then leftN H w else 0
theorem leftN_rd (h : Rd c w j xs) : leftN c.H w = c.ls.length + 1 - j := by
  obtain ⟨_, _, _, _, _, V, h5, _⟩ := h
  unfold leftN; rw [h5.c 0 rfl]
set_option maxRecDepth 100000 in
set_option maxHeartbeats 6400000 in
theorem sum_step {N d : Nat} (ht : PTree.Toks c.ls) (IP : ProdC c N) (h : Rd c w j xs) (hN : 10 * (c.ls.length - j) + 7 < N + 1) (hd : d ≤ 21) (hB : xs.length + (c.ls.length - j) ≤ 5000) :
    Calls Tryd.prog 52 #[c.p, .int .i64 d] w (RAns c xs (PTree.ex c.en (.chain 1) d (c.ls.drop j)) w) := by
  obtain ⟨F, hF⟩ : ∃ F, PTree.ex c.en (.chain 1) d (c.ls.drop j) = F := ⟨_, rfl⟩
  rw [hF]
  obtain ⟨Q, hQ⟩ : ∃ Q, RAns c xs F w = Q := ⟨_, rfl⟩
  rw [hQ]
  have HS := IP d j xs w (by omega) hd h hB
  have HF : Hid ((R.next (PTree.ex c.en (.chain 2) d (c.ls.drop j)) fun t1 a => PTree.ex c.en (.more 1 a) d t1) = F) := Lib.hid (by rw [← PTree.ex_chain1]; exact hF)
  have HQ := Lib.hid hQ
  unfold Rc.p at *
  have HS := Lib.hid HS; have IP := Lib.hid IP; have HN := Lib.hid hN; have HB := Lib.hid hB; have HD := Lib.hid hd; have HT := Lib.hid ht; have HJ := Lib.hid h.le
  clear h hF hQ hN hd hB ht
  go_enter Tryd.func52, Tryd.ntmps52
  go_wp2_with fail
  refine HS.out.mono ?_
  rintro _ w2 ⟨a, er, rfl, st, b2, k2⟩
  obtain ⟨r0, hr0⟩ : ∃ r, PTree.ex c.en (.chain 2) d (c.ls.drop j) = r := ⟨_, rfl⟩
  have I5 : Hid (∀ ts t, r0 = some (.ok ts t) → t.size + ts.length ≤ c.ls.length - j) := Lib.hid (fun ts t e => few_at rfl (hr0.trans e))
  rw [hr0] at st HF
  have I1 := Lib.hid st; have I3 := Lib.hid b2; have I4 := Lib.hid k2
  clear HS st b2 k2 hr0
  go_wp2_with fail
  go_loopw [6, 7] (fun va ve wr => ∃ (a er : Int) (r : Option (R Tr)), va = .int .i64 a ∧ ve = .int .i64 er ∧ Hid (RSt c xs r a er wr) ∧ Hid ((R.next r fun t1 a => PTree.ex c.en (.more 1 a) d t1) = F) ∧ Hid (Below c.H w wr) ∧ Hid (Kp c w wr) ∧ Hid (∀ ts t, r = some (.ok ts t) → t.size + ts.length ≤ c.ls.length - j)) (fun _ ve wr => leftM ve c.H wr)
  case atStart => exact ⟨a, er, r0, rfl, rfl, I1, HF, I3, I4, I5⟩
  case round =>
    clear I1 I3 I4 I5 HF
    obtain ⟨a, er, r, rfl, rfl, I1, I2, I3, I4, I5⟩ := hrel
    rcases I1.out.split with ⟨he, e, q, hr⟩ | ⟨rfl, j2, t, hr, R2, rfl⟩
    · have e1 : (er == 0) = false := by rw [beq_eq_false_iff_ne]; exact he
      have hFF := I2.out
      rw [hr] at hFF
      have FIN : Hid (RSt c xs F a er wr) := Lib.hid (by rw [← I2.out]; exact I1.out.next he _ _)
      clear he hr hFF I1 I2 I5
      go_wp2_with fail
      rw [← HQ.out]
      exact ⟨_, _, rfl, FIN.out, I3.out, I4.out⟩
    · have hfew := I5.out _ _ hr
      have hj2 := R2.le
      rw [List.length_drop] at hfew
      have hFF := I2.out
      rw [hr] at hFF
      replace hFF : PTree.ex c.en (.more 1 t) d (c.ls.drop j2) = F := hFF
      have hm0 := leftN_rd R2
      obtain ⟨o, n, cp, V, _, _, _, hn0, _, hb, t0, t1, t2⟩ := R2.see
      obtain ⟨c0, c1⟩ := box2 hb
      have hsz := hb.1
      have hz := World.block_lt_of_cell? wr _ t1
      obtain ⟨tb, htb⟩ : ∃ b, ({ data := (tx c.ls j2).toArray } : ByteArray) = b := ⟨_, rfl⟩
      have htl : tb.data.toList = tx c.ls j2 := by rw [← htb]
      rw [htb] at t1
      obtain ⟨A, hA⟩ : ∃ A : Nat, (xs.length + t.size - 1 : Nat) = A := ⟨_, rfl⟩
      have hlen : (xs ++ t.flat xs.length).length = xs.length + t.size := by rw [List.length_append, Tr.flat_len]
      by_cases hin : tx c.ls j2 ∈ PTree.level 1
      · have htx := PTree.lvl_tx HT.out hin
        rw [PTree.more_yes (n := 0) (by rw [htx]; exact hin), List.tail_drop, htx] at hFF
        have hne := (PTree.lvl_wd hin).ne
        have hjl := PTree.tx_pos hne
        have HS2 := second_any (F := 63) (d := d) (ta := t) (r := PTree.ex c.en (.chain 2) d (c.ls.drop (j2 + 1))) R2 rfl hne ent_prod (fun w' h' => IP.out d (j2 + 1) _ w' (by have := HN.out; omega) HD.out h' (by rw [hlen]; have := HB.out; omega)) (fun ts b e => by
          have := few_at rfl e
          rw [hlen]; have := HB.out; omega)
        rw [hA] at HS2 ⊢
        obtain ⟨rn, hrn⟩ : ∃ r, (R.next (PTree.ex c.en (.chain 2) d (c.ls.drop (j2 + 1))) fun ts b => some (R.ok ts (Tr.bin (tx c.ls j2) t b))) = r := ⟨_, rfl⟩
        have I2n : Hid ((R.next rn fun t1 a => PTree.ex c.en (.more 1 a) d t1) = F) := Lib.hid (by rw [← hrn, PTree.next_assoc']; exact hFF)
        have I5n : Hid (∀ ts t', rn = some (.ok ts t') → t'.size + ts.length ≤ c.ls.length - j ∧ ts.length < c.ls.length - j2) := Lib.hid (fun ts t' e => by
          rw [← hrn] at e
          obtain ⟨t1, b, e1, e2⟩ := PTree.next_ok' e
          cases e2
          have := few_at rfl e1
          have := b.size_pos
          simp only [Tr.size]; omega)
        rw [hrn] at HS2
        unfold Rc.p at HS2
        have HS2 := Lib.hid HS2
        have HM := Lib.hid hm0
        have HJL := Lib.hid hjl
        have gg : (tb.toList == [43]) = true ∨ ((tb.toList == [43]) = false ∧ (tb.toList == [45]) = true) := by
          simp only [PTree.level, List.mem_cons, List.not_mem_nil, or_false] at hin
          by_cases h1 : tb.data.toList = [43]
          · exact .inl (bq h1)
          · refine .inr ⟨bn h1, bq ?_⟩
            rcases hin with h | h
            · exact absurd (htl.trans h) h1
            · exact htl.trans h
        have zz : ((0 : Int) == 0) = true := rfl
        clear hr R2 hb htb htl hfew hj2 hFF hA hin htx hne hjl hlen hrn I1 I2 I5 hm0
        rcases gg with g1 | ⟨g1, g2⟩
        · go_wp2_with fail
          refine HS2.out.mono ?_
          rintro _ w3 ⟨a3, er3, rfl, st3, b3, k3⟩
          have S3 := Lib.hid st3; have B3 := Lib.hid (I3.out.trans b3); have K3 := Lib.hid (I4.out.trans k3)
          have MM : Hid (leftM (.int .i64 er3) c.H w3 < leftM (.int .i64 0) c.H wr) := Lib.hid (by
            show (if er3 = 0 then leftN c.H w3 else 0) < leftN c.H wr
            rw [HM.out]
            have := HJL.out
            rcases st3.split with ⟨he, _⟩ | ⟨rfl, j3, t3, hr3, R3, _⟩
            · rw [if_neg he]; omega
            · rw [if_pos rfl, leftN_rd R3]
              have := (I5n.out _ _ hr3).2
              rw [List.length_drop] at this
              have := R3.le
              omega)
          clear HS2 st3 b3 k3 t0 t1 t2 c0 c1 hsz hz g1 I3 I4
          go_wp2_with fail
          refine ⟨⟨a3, er3, rn, rfl, rfl, S3, I2n, B3, K3, Lib.hid (fun ts t e => (I5n.out ts t e).1)⟩, ?_⟩
          exact MM.out
        · go_wp2_with fail
          refine HS2.out.mono ?_
          rintro _ w3 ⟨a3, er3, rfl, st3, b3, k3⟩
          have S3 := Lib.hid st3; have B3 := Lib.hid (I3.out.trans b3); have K3 := Lib.hid (I4.out.trans k3)
          have MM : Hid (leftM (.int .i64 er3) c.H w3 < leftM (.int .i64 0) c.H wr) := Lib.hid (by
            show (if er3 = 0 then leftN c.H w3 else 0) < leftN c.H wr
            rw [HM.out]
            have := HJL.out
            rcases st3.split with ⟨he, _⟩ | ⟨rfl, j3, t3, hr3, R3, _⟩
            · rw [if_neg he]; omega
            · rw [if_pos rfl, leftN_rd R3]
              have := (I5n.out _ _ hr3).2
              rw [List.length_drop] at this
              have := R3.le
              omega)
          clear HS2 st3 b3 k3 t0 t1 t2 c0 c1 hsz hz g1 I3 I4
          go_wp2_with fail
          refine ⟨⟨a3, er3, rn, rfl, rfl, S3, I2n, B3, K3, Lib.hid (fun ts t e => (I5n.out ts t e).1)⟩, ?_⟩
          exact MM.out
      · rw [PTree.more_no (PTree.lvl_tx' HT.out hin)] at hFF
        have FIN : Hid (RSt c xs F (A : Nat) 0 wr) := Lib.hid (by
          rw [← hFF, ← hA]; exact ⟨j2, _, R2, rfl, rfl, rfl, rfl⟩)
        rw [hA]
        have g1 : (tb.toList == [43]) = false := bn (fun k => hin (by rw [← htl, k]; decide))
        have g2 : (tb.toList == [45]) = false := bn (fun k => hin (by rw [← htl, k]; decide))
        have zz : ((0 : Int) == 0) = true := rfl
        clear hr R2 hb htb htl hfew hj2 hFF hA hin hlen I1 I2 I5 hm0
        go_wp2_with fail
        rw [← HQ.out]
        exact ⟨_, _, rfl, FIN.out, I3.out, I4.out⟩
set_option maxRecDepth 100000 in
set_option maxHeartbeats 6400000 in
theorem prod_step {N d : Nat} (ht : PTree.Toks c.ls) (IP : FactC c N) (h : Rd c w j xs) (hN : 10 * (c.ls.length - j) + 6 < N + 1) (hd : d ≤ 21) (hB : xs.length + (c.ls.length - j) ≤ 5000) :
    Calls Tryd.prog 63 #[c.p, .int .i64 d] w (RAns c xs (PTree.ex c.en (.chain 2) d (c.ls.drop j)) w) := by
  obtain ⟨F, hF⟩ : ∃ F, PTree.ex c.en (.chain 2) d (c.ls.drop j) = F := ⟨_, rfl⟩
  rw [hF]
  obtain ⟨Q, hQ⟩ : ∃ Q, RAns c xs F w = Q := ⟨_, rfl⟩
  rw [hQ]
  have HS := IP d j xs w (by omega) hd h hB
  have HF : Hid ((R.next (PTree.ex c.en .factor d (c.ls.drop j)) fun t1 a => PTree.ex c.en (.more 2 a) d t1) = F) := Lib.hid (by rw [← PTree.ex_chain2]; exact hF)
  have HQ := Lib.hid hQ
  unfold Rc.p at *
  have HS := Lib.hid HS; have IP := Lib.hid IP; have HN := Lib.hid hN; have HB := Lib.hid hB; have HD := Lib.hid hd; have HT := Lib.hid ht; have HJ := Lib.hid h.le
  clear h hF hQ hN hd hB ht
  go_enter Tryd.func63, Tryd.ntmps63
  go_wp2_with fail
  refine HS.out.mono ?_
  rintro _ w2 ⟨a, er, rfl, st, b2, k2⟩
  obtain ⟨r0, hr0⟩ : ∃ r, PTree.ex c.en .factor d (c.ls.drop j) = r := ⟨_, rfl⟩
  have I5 : Hid (∀ ts t, r0 = some (.ok ts t) → t.size + ts.length ≤ c.ls.length - j) := Lib.hid (fun ts t e => few_at rfl (hr0.trans e))
  rw [hr0] at st HF
  have I1 := Lib.hid st; have I3 := Lib.hid b2; have I4 := Lib.hid k2
  clear HS st b2 k2 hr0
  go_wp2_with fail
  go_loopw [6, 7] (fun va ve wr => ∃ (a er : Int) (r : Option (R Tr)), va = .int .i64 a ∧ ve = .int .i64 er ∧ Hid (RSt c xs r a er wr) ∧ Hid ((R.next r fun t1 a => PTree.ex c.en (.more 2 a) d t1) = F) ∧ Hid (Below c.H w wr) ∧ Hid (Kp c w wr) ∧ Hid (∀ ts t, r = some (.ok ts t) → t.size + ts.length ≤ c.ls.length - j)) (fun _ ve wr => leftM ve c.H wr)
  case atStart => exact ⟨a, er, r0, rfl, rfl, I1, HF, I3, I4, I5⟩
  case round =>
    clear I1 I3 I4 I5 HF
    obtain ⟨a, er, r, rfl, rfl, I1, I2, I3, I4, I5⟩ := hrel
    rcases I1.out.split with ⟨he, e, q, hr⟩ | ⟨rfl, j2, t, hr, R2, rfl⟩
    · have e1 : (er == 0) = false := by rw [beq_eq_false_iff_ne]; exact he
      have hFF := I2.out
      rw [hr] at hFF
      have FIN : Hid (RSt c xs F a er wr) := Lib.hid (by rw [← I2.out]; exact I1.out.next he _ _)
      clear he hr hFF I1 I2 I5
      go_wp2_with fail
      rw [← HQ.out]
      exact ⟨_, _, rfl, FIN.out, I3.out, I4.out⟩
    · have hfew := I5.out _ _ hr
      have hj2 := R2.le
      rw [List.length_drop] at hfew
      have hFF := I2.out
      rw [hr] at hFF
      replace hFF : PTree.ex c.en (.more 2 t) d (c.ls.drop j2) = F := hFF
      have hm0 := leftN_rd R2
      obtain ⟨o, n, cp, V, _, _, _, hn0, _, hb, t0, t1, t2⟩ := R2.see
      obtain ⟨c0, c1⟩ := box2 hb
      have hsz := hb.1
      have hz := World.block_lt_of_cell? wr _ t1
      obtain ⟨tb, htb⟩ : ∃ b, ({ data := (tx c.ls j2).toArray } : ByteArray) = b := ⟨_, rfl⟩
      have htl : tb.data.toList = tx c.ls j2 := by rw [← htb]
      rw [htb] at t1
      obtain ⟨A, hA⟩ : ∃ A : Nat, (xs.length + t.size - 1 : Nat) = A := ⟨_, rfl⟩
      have hlen : (xs ++ t.flat xs.length).length = xs.length + t.size := by rw [List.length_append, Tr.flat_len]
      by_cases hin : tx c.ls j2 ∈ PTree.level 2
      · have htx := PTree.lvl_tx HT.out hin
        rw [PTree.more_yes (n := 1) (by rw [htx]; exact hin), List.tail_drop, htx, PTree.ex_chain3] at hFF
        have hne := (PTree.lvl_wd hin).ne
        have hjl := PTree.tx_pos hne
        have HS2 := second_any (F := 67) (d := d) (ta := t) (r := PTree.ex c.en .factor d (c.ls.drop (j2 + 1))) R2 rfl hne ent_fact (fun w' h' => IP.out d (j2 + 1) _ w' (by have := HN.out; omega) HD.out h' (by rw [hlen]; have := HB.out; omega)) (fun ts b e => by
          have := few_at rfl e
          rw [hlen]; have := HB.out; omega)
        rw [hA] at HS2 ⊢
        obtain ⟨rn, hrn⟩ : ∃ r, (R.next (PTree.ex c.en .factor d (c.ls.drop (j2 + 1))) fun ts b => some (R.ok ts (Tr.bin (tx c.ls j2) t b))) = r := ⟨_, rfl⟩
        have I2n : Hid ((R.next rn fun t1 a => PTree.ex c.en (.more 2 a) d t1) = F) := Lib.hid (by rw [← hrn, PTree.next_assoc']; exact hFF)
        have I5n : Hid (∀ ts t', rn = some (.ok ts t') → t'.size + ts.length ≤ c.ls.length - j ∧ ts.length < c.ls.length - j2) := Lib.hid (fun ts t' e => by
          rw [← hrn] at e
          obtain ⟨t1, b, e1, e2⟩ := PTree.next_ok' e
          cases e2
          have := few_at rfl e1
          have := b.size_pos
          simp only [Tr.size]; omega)
        rw [hrn] at HS2
        unfold Rc.p at HS2
        have HS2 := Lib.hid HS2
        have HM := Lib.hid hm0
        have HJL := Lib.hid hjl
        have g1 : (tb.toList == [42]) = true := by
          simp only [PTree.level, List.mem_cons, List.not_mem_nil, or_false] at hin
          exact bq (htl.trans hin)
        have zz : ((0 : Int) == 0) = true := rfl
        clear hr R2 hb htb htl hfew hj2 hFF hA hin htx hne hjl hlen hrn I1 I2 I5 hm0
        go_wp2_with fail
        refine HS2.out.mono ?_
        rintro _ w3 ⟨a3, er3, rfl, st3, b3, k3⟩
        have S3 := Lib.hid st3; have B3 := Lib.hid (I3.out.trans b3); have K3 := Lib.hid (I4.out.trans k3)
        have MM : Hid (leftM (.int .i64 er3) c.H w3 < leftM (.int .i64 0) c.H wr) := Lib.hid (by
          show (if er3 = 0 then leftN c.H w3 else 0) < leftN c.H wr
          rw [HM.out]
          have := HJL.out
          rcases st3.split with ⟨he, _⟩ | ⟨rfl, j3, t3, hr3, R3, _⟩
          · rw [if_neg he]; omega
          · rw [if_pos rfl, leftN_rd R3]
            have := (I5n.out _ _ hr3).2
            rw [List.length_drop] at this
            have := R3.le
            omega)
        clear HS2 st3 b3 k3 t0 t1 t2 c0 c1 hsz hz g1 I3 I4
        go_wp2_with fail
        refine ⟨⟨a3, er3, rn, rfl, rfl, S3, I2n, B3, K3, Lib.hid (fun ts t e => (I5n.out ts t e).1)⟩, ?_⟩
        exact MM.out
      · rw [PTree.more_no (PTree.lvl_tx' HT.out hin)] at hFF
        have FIN : Hid (RSt c xs F (A : Nat) 0 wr) := Lib.hid (by
          rw [← hFF, ← hA]; exact ⟨j2, _, R2, rfl, rfl, rfl, rfl⟩)
        rw [hA]
        have g1 : (tb.toList == [42]) = false := bn (fun k => hin (by rw [← htl, k]; decide))
        have zz : ((0 : Int) == 0) = true := rfl
        clear hr R2 hb htb htl hfew hj2 hFF hA hin hlen I1 I2 I5 hm0
        go_wp2_with fail
        rw [← HQ.out]
        exact ⟨_, _, rfl, FIN.out, I3.out, I4.out⟩
end Go.Proofs.YtkmehhhgdeiaeaaDoor
