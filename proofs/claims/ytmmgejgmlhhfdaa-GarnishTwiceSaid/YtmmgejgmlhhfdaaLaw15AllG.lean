/-
  GarnishAll: with as much as all want each has its want; with nothing above what is protected nobody has anything.
-/
import Derived.Test.YtmmgejgmlhhfdaaLaw15FirstG
namespace Go.Proofs.Ytmmgejgmlhhfdaa
open Go.RowKit

/-- An order of a claim and a balance below 2^40. -/
def PGa.md (o : PGa.Ord) : PGa.Ord := ⟨o.c, o.p, (max o.cl 0).tmod 1099511627776, (max o.ba 0).tmod 1099511627776⟩
theorem mod_range (x : Int) : 0 ≤ (max x 0).tmod 1099511627776 ∧ (max x 0).tmod 1099511627776 < 1099511627776 := by
  rw [Int.tmod_eq_emod_of_nonneg (by omega)]; omega
theorem md_at {l : List PGa.Ord} {i : Nat} (hi : i < l.length) (h2 : i < (l.map PGa.md).length) : (l.map PGa.md)[i] = PGa.md l[i] := by simp
theorem md_ok (l : List PGa.Ord) : PGa.Ok (l.map PGa.md) := fun i hi => by
  have hil : i < l.length := by simpa using hi
  rw [md_at hil hi]
  have h1 := mod_range l[i].cl; have h2 := mod_range l[i].ba
  unfold PGa.md
  exact ⟨⟨h1.1, by simp only; omega⟩, h2.1, by simp only; omega⟩
theorem md_wn {l : List PGa.Ord} {i : Nat} (hi : i < l.length) : ((PGa.wn (l.map PGa.md) i : Nat) : Int) = min ((max l[i].cl 0).tmod 1099511627776) ((max l[i].ba 0).tmod 1099511627776) := by
  have := (md_ok l).wn (i := i) (by simpa using hi)
  rw [md_at hi] at this
  exact this
theorem md_err {l : List PGa.Ord} {net prot : Int} (hl : l.length ≤ 8) (h0 : 0 ≤ prot) (h1 : prot ≤ 1125899906842624) (h2 : -1125899906842624 ≤ net) (h3 : net ≤ 1125899906842624) : PGa.err net prot (l.map PGa.md) = 0 := by
  have hok := md_ok l
  have a1 : (l.map PGa.md).any PGa.low = false := Bool.eq_false_iff.2 (fun k => by
    obtain ⟨o, ho, h⟩ := List.any_eq_true.1 k
    obtain ⟨i, hi, rfl⟩ := List.getElem_of_mem ho
    have := hok i hi
    unfold PGa.low at h
    rw [Bool.or_eq_true, decide_eq_true_eq, decide_eq_true_eq] at h
    omega)
  have a2 : (l.map PGa.md).any PGa.over = false := Bool.eq_false_iff.2 (fun k => by
    obtain ⟨o, ho, h⟩ := List.any_eq_true.1 k
    obtain ⟨i, hi, rfl⟩ := List.getElem_of_mem ho
    have := hok i hi
    unfold PGa.over at h
    rw [Bool.or_eq_true, decide_eq_true_eq, decide_eq_true_eq] at h
    omega)
  unfold PGa.err
  rw [if_neg (by rw [List.length_map]; omega), if_neg (by rw [a1]; intro k; rcases k with k | k; omega; cases k), if_neg (by rw [a2]; intro k; rcases k with k | k | k; omega; omega; cases k)]
theorem served_full {T : Nat} {l : List PGa.Ord} (h : PGa.all l ≤ T) (i : Nat) : PGa.served T l i = PGa.wn l i := by
  unfold PGa.served
  rw [if_pos]
  have : PGa.below l (PGa.pr l i) + PGa.atP l (PGa.pr l i) ≤ PGa.all l := by
    unfold PGa.below PGa.atP PGa.all
    rw [← PSplit.sumN_add]
    refine PSplit.sumN_le (fun k _ => ?_)
    unfold PGa.grp
    by_cases e1 : PGa.pr l k < PGa.pr l i
    · rw [if_pos e1, if_neg (by omega)]; omega
    · rw [if_neg e1]
      by_cases e2 : PGa.pr l k = PGa.pr l i
      · rw [if_pos e2]; omega
      · rw [if_neg e2]; omega
  omega
theorem served_nothing {l : List PGa.Ord} {i : Nat} (hi : i < l.length) : PGa.served 0 l i = 0 := by
  have h1 := PGa.served_sum 0 l
  have h2 := PSplit.le_sumN (f := PGa.served 0 l) hi
  omega

/-- append_rec, that says that cells elsewhere are as they were. -/
theorem append_rec_at {α : Type} {R : Rec α} {e t : TypeId} {bytes : Nat} (T : RecTy R e t bytes) {w : World} {ops : Array Oper} {rest : List Oper} {o : Oper} {a : Act} {Q : Exit → Act → World → Prop} (hgd : o.guard = none) (s x : Operand)
    (ho : o.op = .call { callee := .builtin .append, args := #[s, x], argTypes := #[t, t] })
    (base : Nat) (v : Value) (l : List α) (y : α) (hs : a.eval s = v) (hown : w.ownsRow base e R.k v l.length (R.cells l))
    (hx : a.eval x = .slice (some ⟨w.heap.size, 0, none⟩) 1 1) (hn : l.length + 1 ≤ 100000) (hbase : base ≤ w.heap.size)
    (h : ∀ v' w', w'.ownsRow base e R.k v' (l.length + 1) (R.cells (l ++ [y])) → Below base w w' → (∀ p u, w.cell? p = some u → v.ownBlock ≠ some p.block → w'.cell? p = some u) → wpList Try.prog ops Q rest (a.put o.dst v') w') :
    wpList Try.prog ops Q (o :: rest) a (w.alloc (.cells (R.C y).toArray e)) := by
  obtain ⟨z, hz, hzs⟩ := T.info
  obtain ⟨i0, hi, hz0, hz1, hz2⟩ := info_parts hz
  refine wpList_append_own_at _ hgd s x t ho base e i0 z R.k bytes T.under hi hz0 hz1 hz2 hzs R.pos v l.length _ hs (hown.alloc _) ⟨w.heap.size, 0, none⟩ 1 1 (R.C y) hx (by rw [R.len, Nat.one_mul]) (fun j u hj => ?_) (R.one y) (by unfold maxLen; omega) ?_ (by simp; omega) (fun v' w' ho' hg _ hat => h v' w' ?_ ?_ (fun p u hp hne => ?_))
  · rw [addr_add, World.cell?_alloc_at _ _ _ _ rfl]; simpa using hj
  · have := Nat.mul_le_mul hn T.few; omega
  · rw [R.cells_append, R.cells_one]; exact ho'
  · exact ((Below.refl _ _).alloc hbase _).grown hg (by simp; omega) (fun k hk => (hown.lt k hk).1)
  · have hp2 : (w.alloc (.cells (R.C y).toArray e)).cell? p = some u := (((Below.refl w.heap.size w).alloc (Nat.le_refl _) _).cell (World.block_lt_of_cell? w _ hp)).trans hp
    exact hg.cell hp2 (fun e => hne e.symm)

set_option maxHeartbeats 6400000 in
set_option maxRecDepth 100000 in
theorem lgall_in {A : Option Addr} {n ca : Nat} {l : List PGa.Ord} {w : World} {p : Int} (h : SlO w A n l) (h8 : n ≤ 8) (p0 : 0 ≤ p) (p1 : p ≤ 4294967295) :
    Calls Try.prog 7 #[.slice A n ca, .int .u32 p] w fun e w' => e = .returned (.bool true) ∧ Below w.heap.size w w' := by
  have H := Lib.hid h
  have hl := Lib.hid h.len
  have i8 : ¬ (8 : Int) < (n : Int) := by omega
  obtain ⟨L, hL⟩ : ∃ L, l.map PGa.md = L := ⟨_, rfl⟩
  have hLn : L.length = n := by rw [← hL, List.length_map, h.len]
  have HLn := Lib.hid hLn
  have HOK : Hid (PGa.Ok L) := Lib.hid (by rw [← hL]; exact md_ok l)
  have HMD : Hid (∀ k (hk : k < l.length) (hk2 : k < L.length), L[k] = PGa.md l[k]) := Lib.hid (fun k hk hk2 => by subst hL; exact md_at hk hk2)
  have HIN : Hid (∀ i (h : i < L.length), PGa.In L[i]) := Lib.hid (fun i hi => by
    have hil : i < l.length := by rw [h.len, ← hLn]; exact hi
    rw [HMD.out i hil hi]
    have := h.2.1 i hil
    have h1 := mod_range l[i].cl; have h2 := mod_range l[i].ba
    unfold PGa.md
    exact ⟨this.1, this.2.1, ⟨by simp only; omega, by simp only; omega⟩, by simp only; omega, by simp only; omega⟩)
  have HSU : Hid (∀ k, k ≤ n → PSplit.sumN (PGa.wn L) k ≤ 9007199254740992) := Lib.hid (fun k hk => by
    have := sumN_upto_const (fun i => HOK.out.wn_le i) k
    omega)
  have HSU2 : Hid (PSplit.sumN (PGa.wn L) n ≤ 8796093022208) := Lib.hid (by
    have h1 : ∀ i, PGa.wn L i ≤ 1099511627776 := fun i => by
      by_cases hi : i < l.length
      · have := md_wn hi; rw [hL] at this; have h1 := mod_range l[i].cl; omega
      · unfold PGa.wn; rw [List.getD, List.getElem?_eq_none (by rw [hLn, ← h.len]; omega)]; decide
    have := sumN_upto_const h1 n
    omega)
  have C1 : Hid (∀ w' V c (net : Int) (T : Nat), SlO w' V n L → -1125899906842624 ≤ net → net ≤ 1125899906842624 → PGa.there net p = T → Calls Try.prog 11 #[.int .i64 net, .int .i64 p, .slice V n c] w' (ServeA 0 n (PSplit.wlist (PGa.served T L) n) w')) := Lib.hid (fun w' V c net T hs h2 h3 hT => by
    have := gaserve_any (cap := c) (net := net) (prot := p) hs
    rw [hT, ← hL, md_err (by rw [h.len]; exact h8) p0 (by omega) h2 h3, hL] at this
    exact this)
  clear h hLn hL
  go_enter Try.func7, Try.ntmps7
  go_wp2_with fail
  go_loopw [5, 6, 21] (fun s v i wy => ∃ (k : Nat) (V : Option Addr) (cv : Nat), k ≤ n ∧ s = .int .i64 ((PSplit.sumN (PGa.wn L) k : Nat) : Int) ∧ v = .slice V k cv ∧ i = .int .i64 k ∧ Hid (wy.ownsRow w.heap.size 35 4 (.slice V k cv) (L.take k).length (ordR.cells (L.take k))) ∧ Hid (Below w.heap.size w wy)) (fun _ _ i _ => n - (intOf i).toNat)
  case atStart => exact ⟨0, none, 0, Nat.zero_le _, rfl, rfl, rfl, (show Hid _ from ⟨rfl, .inl ⟨rfl, rfl⟩⟩), (show Hid _ from Below.refl _ _)⟩
  case round =>
    obtain ⟨k, V, cv, hk, rfl, rfl, rfl, HO, HY⟩ := hrel
    by_cases hlt : k < n
    · obtain ⟨b, off, rfl, hc⟩ := (H.out.on HY.out).cells hlt
      have hkl : k < l.length := by rw [hl.out]; exact hlt
      have hkL : k < L.length := by rw [HLn.out]; exact hlt
      obtain ⟨d0, d1, d2, d3⟩ := hc k hkl
      have hmd := HMD.out k hkl hkL
      have hwn := HOK.out.wn hkL
      have hnext : L.take (k + 1) = L.take k ++ [L[k]] := List.take_succ_eq_append_getElem hkL
      have hlen : (L.take k).length = k := by rw [List.length_take, HLn.out]; omega
      obtain ⟨o, ho⟩ : ∃ o, l[k] = o := ⟨_, rfl⟩
      rw [ho] at d0 d1 d2 d3 hmd
      rw [hmd] at hnext hwn
      obtain ⟨oc, op, ocl, oba⟩ := o
      obtain ⟨mc, hmc⟩ : ∃ x, max ocl 0 = x := ⟨_, rfl⟩
      obtain ⟨mb, hmb⟩ : ∃ x, max oba 0 = x := ⟨_, rfl⟩
      obtain ⟨cl, hcl⟩ : ∃ x, mc.tmod 1099511627776 = x := ⟨_, rfl⟩
      obtain ⟨ba, hba⟩ : ∃ x, mb.tmod 1099511627776 = x := ⟨_, rfl⟩
      have r1 := mod_range ocl; have r2 := mod_range oba
      rw [hmc, hcl] at r1; rw [hmb, hba] at r2
      have hmd2 : PGa.md ⟨oc, op, ocl, oba⟩ = ⟨oc, op, cl, ba⟩ := by unfold PGa.md; simp only [hmc, hmb, hcl, hba]
      rw [hmd2] at hnext hwn
      have w1 : IntKind.i64.wrap cl = cl := by rw [IntKind.wrap_i64]; omega
      have w2 : IntKind.i64.wrap ba = ba := by rw [IntKind.wrap_i64]; omega
      have i1 : (0 : Int) ≤ (k : Int) := by omega
      have i2 : (k : Int) < (n : Int) := by omega
      obtain ⟨LT, hLT⟩ : ∃ q, L.take k = q := ⟨_, rfl⟩
      rw [hLT] at HO hnext hlen
      have hwn2 : ((PGa.wn L k : Nat) : Int) = min cl ba := hwn
      have hsu := HSU.out (k + 1) hlt
      have hsu2 : PSplit.sumN (PGa.wn L) (k + 1) = PSplit.sumN (PGa.wn L) k + PGa.wn L k := rfl
      have HNX := Lib.hid hnext; have HLT := Lib.hid hlen
      have hob : ∀ G, wr.heap.size ≤ G → (Value.slice V k cv).ownBlock ≠ some G := fun G hG e => by have := (HO.out.lt G e).2; omega
      have HOB := Lib.hid hob
      obtain ⟨S, hS⟩ : ∃ x : Int, ((PSplit.sumN (PGa.wn L) k : Nat) : Int) = x := ⟨_, rfl⟩
      obtain ⟨S', hS'⟩ : ∃ x : Int, ((PSplit.sumN (PGa.wn L) (k + 1) : Nat) : Int) = x := ⟨_, rfl⟩
      obtain ⟨mn, hmn⟩ : ∃ x : Int, min cl ba = x := ⟨_, rfl⟩
      rw [hS]
      have w3 : IntKind.i64.wrap (S + mn) = S' := by rw [IntKind.wrap_i64]; omega
      have HS' := Lib.hid hS'
      clear hc hmd hwn hnext hlen ho hmd2 hLT hob hsu hsu2 hwn2 hS hS'
      go_upto_region 9 with fail
      have b5 : Below wr.heap.size wr (wr.alloc (.cells #[.int .i64 oc, .int .i64 op, .int .i64 cl, .int .i64 ba] 35)) := (Below.refl _ _).alloc (Nat.le_refl _) _
      have XA5 := Lib.hid (Box.new wr 35 [.int .i64 oc, .int .i64 op, .int .i64 cl, .int .i64 ba])
      have HO5 := Lib.hid (own_below HO.out b5)
      have hbG := HOB.out wr.heap.size (Nat.le_refl _)
      have HY5 := Lib.hid (below_step HY.out b5)
      obtain ⟨G, hG⟩ : ∃ G, wr.heap.size = G := ⟨_, rfl⟩
      have HGw : Hid (w.heap.size ≤ G) := Lib.hid (by rw [← hG]; exact HY.out.size)
      rw [hG] at XA5 hbG ⊢
      have HBG := Lib.hid hbG
      generalize wr.alloc (.cells [.int .i64 oc, .int .i64 op, .int .i64 cl, .int .i64 ba].toArray 35) = w5 at *
      clear b5 hG HO HY d0 d1 d2 d3 w1 w2 hbG HOB
      obtain ⟨a0, a1, a2, a3⟩ := box4 XA5.out
      have hsz := HY5.out.size
      go_wp2_with (at_builtin; refine append_rec_at ord_recTy rfl _ _ rfl w.heap.size (.slice V k cv) LT ⟨oc, op, cl, ba⟩ (by rfl) HO5.out (by rfl) (by rw [HLT.out]; omega) hsz ?_)
      intro p' w6 hown6 hb6 hk6
      rw [HLT.out] at hown6
      obtain ⟨P1, cpn, rfl⟩ := own_shape15 hown6
      have HO7 : Hid (w6.ownsRow w.heap.size 35 4 (.slice P1 (k + 1) cpn) (L.take (k + 1)).length (ordR.cells (L.take (k + 1)))) := Lib.hid (by
        rw [HNX.out, List.length_append, HLT.out]
        exact hown6)
      have HY7 := Lib.hid (HY5.out.trans hb6)
      have a2' := hk6 _ _ a2 HBG.out
      have a3' := hk6 _ _ a3 HBG.out
      clear hown6 hb6 hk6 a0 a1 a2 a3 XA5 HO5 HY5
      go_wp2_with fail
      exact ⟨⟨k + 1, P1, cpn, by omega, by rw [HS'.out], rfl, by congr 1, HO7, HY7⟩, by simp [intOf]; omega⟩
    · obtain rfl : k = n := by omega
      have hw : L.take k = L := List.take_of_length_le (by rw [HLn.out]; exact Nat.le_refl _)
      have hSV : SlO wr V k L := by
        have := HO.out
        rw [hw, HLn.out] at this
        obtain ⟨A', cap', e, _, _, hx⟩ := slr_of_own (R := ordR) this HLn.out
        injection e with e1 e2 e3
        subst e1
        exact ⟨hx, HIN.out, by omega⟩
      have HSV := Lib.hid hSV
      obtain ⟨S, hS⟩ : ∃ x : Nat, PSplit.sumN (PGa.wn L) k = x := ⟨_, rfl⟩
      have hall : PGa.all L = S := by unfold PGa.all; rw [HLn.out, hS]
      have hS2 := HSU2.out
      rw [hS] at hS2 ⊢
      have t1 : PGa.there (p + (S : Int)) p = S := by unfold PGa.there; omega
      have t2 : PGa.there p p = 0 := by unfold PGa.there; omega
      have D1 := Lib.hid (C1.out wr V cv (p + (S : Int)) S hSV (by omega) (by omega) t1)
      have D2 := Lib.hid (fun w' (hs : SlO w' V k L) => C1.out w' V cv p 0 hs (by omega) (by omega) t2)
      have HALL : Hid (∀ i, PGa.served S L i = PGa.wn L i) := Lib.hid (fun i => served_full (by omega) i)
      have w3 : IntKind.i64.wrap (p + (S : Int)) = p + (S : Int) := by rw [IntKind.wrap_i64]; omega
      have w4 : IntKind.i64.wrap p = p := by rw [IntKind.wrap_i64]; omega
      clear hw hSV hS hall hS2 t1 t2 HO C1
      go_wp2_with fail
      refine D1.out.mono ?_
      rintro _ w3 ⟨S1, m1, c1, rfl, b3, y1, -⟩
      obtain ⟨rfl, s1, -⟩ := y1 rfl
      have B3 := Lib.hid (below_step HY.out b3); have HSV3 := Lib.hid (HSV.out.on b3); have S13 := Lib.hid s1
      clear b3 y1 s1 D1 HSV
      go_wp2_with fail
      refine (D2.out _ HSV3.out).mono ?_
      rintro _ w4 ⟨S2, m2, c2, rfl, b4, y2, -⟩
      obtain ⟨rfl, s2, -⟩ := y2 rfl
      have B4 := Lib.hid (below_step B3.out b4); have HSV4 := Lib.hid (HSV3.out.on b4); have S14 := Lib.hid (S13.out.on b4); have S24 := Lib.hid s2
      clear b4 y2 s2 D2 HSV3 S13
      have e0 : ((0 : Int) != 0) = false := rfl
      have e3 : ((m2 : Int) != (m2 : Int)) = false := bne_self_eq_false _
      go_wp2_with fail
      clear e0 e3
      go_loopw [89] (fun i wy => ∃ j : Nat, j ≤ m2 ∧ i = .int .i64 j ∧ Hid (Below w4.heap.size w4 wy)) (fun i _ => m2 - (intOf i).toNat)
      case atStart => exact ⟨0, Nat.zero_le _, rfl, (show Hid _ from Below.refl _ _)⟩
      case round =>
        obtain ⟨j, hj, rfl, HZ⟩ := hrel
        by_cases hjt : j < m2
        · obtain ⟨b1, o1, rfl, h1⟩ := ga_at (S14.out.on HZ.out) hjt
          obtain ⟨b2, o2, rfl, h2⟩ := ga_at (S24.out.on HZ.out) hjt
          have c1 := h1 j hjt; have c2 := h2 j hjt
          have hjL : j < L.length := by rw [HLn.out]; exact hjt
          rw [PSplit.wlist_get hjt, HALL.out j, HOK.out.wn hjL] at c1
          rw [PSplit.wlist_get hjt, served_nothing hjL] at c2
          obtain ⟨b3, o3, rfl, h3⟩ := (HSV4.out.on HZ.out).cells hjt
          obtain ⟨d0, d1, d2, d3⟩ := h3 j hjL
          obtain ⟨o, ho⟩ : ∃ o, L[j] = o := ⟨_, rfl⟩
          rw [ho] at d0 d1 d2 d3 c1
          obtain ⟨oc, op, ocl, oba⟩ := o
          obtain ⟨mn, hmn⟩ : ∃ x : Int, min ocl oba = x := ⟨_, rfl⟩
          have c1' : wr.cell? ⟨b1, o1 + j, none⟩ = some (.int .i64 mn) := by rw [← hmn]; exact c1
          have c2' : wr.cell? ⟨b2, o2 + j, none⟩ = some (.int .i64 0) := c2
          have e5 : (mn != mn) = false := bne_self_eq_false _
          have e6 : ((0 : Int) != 0) = false := rfl
          have i3 : (0 : Int) ≤ (j : Int) := by omega
          have i4 : (j : Int) < (m2 : Int) := by omega
          clear h1 h2 h3 ho c1 c2
          go_upto_region 19 with fail
          have b5 : Below wr.heap.size wr (wr.alloc (.cells #[.int .i64 oc, .int .i64 op, .int .i64 ocl, .int .i64 oba] 35)) := (Below.refl _ _).alloc (Nat.le_refl _) _
          have XA5 := Lib.hid (Box.new wr 35 [.int .i64 oc, .int .i64 op, .int .i64 ocl, .int .i64 oba])
          have HZ5 := Lib.hid (below_step HZ.out b5)
          have c1 := (b5.cell (World.block_lt_of_cell? wr _ c1')).trans c1'
          have c2 := (b5.cell (World.block_lt_of_cell? wr _ c2')).trans c2'
          obtain ⟨G, hG⟩ : ∃ G, wr.heap.size = G := ⟨_, rfl⟩
          rw [hG] at XA5 ⊢
          generalize wr.alloc (.cells [.int .i64 oc, .int .i64 op, .int .i64 ocl, .int .i64 oba].toArray 35) = w5 at *
          clear b5 hG HZ d0 d1 d2 d3 c1' c2'
          obtain ⟨a0, a1, a2, a3⟩ := box4 XA5.out
          go_wp2_with fail
          go_quiet (fail)
          have BQ : Hid (Below w4.heap.size w4 (w5.drewN nq)) := Lib.hid (below_drewN HZ5.out _)
          generalize w5.drewN nq = wq at *
          clear c1 c2 a0 a1 a2 a3
          go_wp2_with fail
          exact ⟨⟨j + 1, by omega, by congr 1, BQ⟩, by simp [intOf]; omega⟩
        · obtain rfl : j = m2 := by omega
          have BZ := Lib.hid (below_step B4.out HZ.out)
          go_wp2_with fail
          refine (awake_any _).mono ?_
          rintro _ w9 ⟨rfl, b9⟩
          have B9 := Lib.hid (below_step BZ.out b9)
          clear b9
          go_wp2_with fail
          go_ret
          exact ⟨rfl, B9.out⟩

set_option maxHeartbeats 3200000 in
theorem lgall_out {A : Option Addr} {n ca : Nat} {w : World} {p : Int} (h8 : ¬ n ≤ 8) :
    Calls Try.prog 7 #[.slice A n ca, .int .u32 p] w fun e w' => e = .returned (.bool true) ∧ Below w.heap.size w w' := by
  have i8 : (8 : Int) < (n : Int) := by omega
  clear h8
  go_enter Try.func7, Try.ntmps7
  go_wp2_with fail
  refine (awake_any _).mono ?_
  rintro _ w9 ⟨rfl, b9⟩
  have B9 := Lib.hid b9
  clear b9
  go_wp2_with fail
  go_ret
  exact ⟨rfl, B9.out⟩
theorem lgall_walk (A : Option Addr) (n ca : Nat) (l : List PGa.Ord) (p : Int) (w : World) (h : SlO w A n l) (hp : (Lit.int .u32 p).wf = true) :
    Calls Try.prog 7 #[.slice A n ca, .int .u32 p] w fun e w' => e = .returned (.bool true) ∧ Below w.heap.size w w' := by
  by_cases h8 : n ≤ 8
  · exact lgall_in h h8 (u32_bounds hp).1 (u32_bounds hp).2
  · exact lgall_out h8
end Go.Proofs.Ytmmgejgmlhhfdaa
