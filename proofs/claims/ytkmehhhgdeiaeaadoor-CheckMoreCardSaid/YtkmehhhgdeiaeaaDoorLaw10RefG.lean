/-
  A program of any rows as the document's: the same rows.
-/
import Derived.Test.YtkmehhhgdeiaeaaDoorCheckKindG
import Derived.Test.YtkmehhhgdeiaeaaDoorKT
import Derived.Deep.Onto
namespace Go.Proofs.YtkmehhhgdeiaeaaDoor
open Go.RowKit
open PCheck (Xp)

/-- A rule of any program. -/
structure Rl10 where
  kind : List UInt8
  name : List UInt8
  expr : Int
def rlC (x : Rl10) : List Value := [.string ⟨x.kind.toArray⟩, .string ⟨x.name.toArray⟩, .int .i64 x.expr]
def rlR : Rec Rl10 := ⟨rlC, 3, by decide, fun _ => rfl, fun x u hu => by simp [rlC] at hu; rcases hu with rfl | rfl | rfl <;> rfl⟩
theorem bx2 {w : World} {H : Nat} {a b : Value} (h : Box w H [a, b]) : w.cell? ⟨H, 0, none⟩ = some a ∧ w.cell? ⟨H, 1, none⟩ = some b := ⟨h.c 0 rfl, h.c 1 rfl⟩
theorem bx2f {w : World} {H : Nat} {a b : Value} (h : Box w H [a, b]) : w.frozen? ⟨H, 0, none⟩ = false ∧ w.frozen? ⟨H, 1, none⟩ = false := ⟨h.f 0 rfl, h.f 1 rfl⟩
theorem st2x {w : World} {H : Nat} {a b : Value} (h : Box w H [a, b]) (a' b' : Value) :
    ∃ w', ((w.setCell ⟨H, 0, none⟩ a').setCell ⟨H, 1, none⟩ b') = w' ∧ Box w' H [a', b'] ∧ Only H w w' :=
  ⟨_, rfl, (h.set 0 (by simp) a').set 1 (by simp) b', (((Only.refl H w).set 0 a').set 1 b')⟩

/-- 's = append(s, y)', s a row of the call's own, of any length that memory bears. -/
theorem append_recW {α : Type} {R : Rec α} {e t : TypeId} {bytes : Nat} (T : RecTy R e t bytes) {w : World} {ops : Array Oper} {rest : List Oper} {o : Oper} {a : Act} {Q : Exit → Act → World → Prop} (hgd : o.guard = none) (s x : Operand)
    (ho : o.op = .call { callee := .builtin .append, args := #[s, x], argTypes := #[t, t] })
    (base : Nat) (v : Value) (l : List α) (y : α) (hs : a.eval s = v) (hown : w.ownsRow base e R.k v l.length (R.cells l))
    (hx : a.eval x = .slice (some ⟨w.heap.size, 0, none⟩) 1 1) (hn : (l.length + 1) * bytes ≤ 2 ^ 47) (hm : l.length + 1 ≤ 2 ^ 47) (hbase : base ≤ w.heap.size)
    (h : ∀ v' w', w'.ownsRow base e R.k v' (l.length + 1) (R.cells (l ++ [y])) → Below base w w' → wpList Tryd.prog ops Q rest (a.put o.dst v') w') :
    wpList Tryd.prog ops Q (o :: rest) a (w.alloc (.cells (R.C y).toArray e)) := by
  obtain ⟨z, hz, hzs⟩ := T.info
  obtain ⟨i0, hi, hz0, hz1, hz2⟩ := info_parts hz
  refine wpList_append_own_at _ hgd s x t ho base e i0 z R.k bytes T.under hi hz0 hz1 hz2 hzs R.pos v l.length _ hs (hown.alloc _) ⟨w.heap.size, 0, none⟩ 1 1 (R.C y) hx (by rw [R.len, Nat.one_mul]) (fun j u hj => ?_) (R.one y) (by unfold maxLen; omega) ?_ (by simp; omega) (fun v' w' ho' hg _ hat => h v' w' ?_ ?_)
  · rw [addr_add, World.cell?_alloc_at _ _ _ _ rfl]; simpa using hj
  · omega
  · rw [R.cells_append, R.cells_one]; exact ho'
  · exact ((Below.refl _ _).alloc hbase _).grown hg (by simp; omega) (fun k hk => (hown.lt k hk).1)
theorem doc_xpTy : RecTy xpR 51 29 64 where
  info := ⟨.agg #[.string ⟨#[]⟩, .string ⟨#[]⟩, .int .i64 0, .int .i64 0, .int .i64 0, .int .i64 0], by kernel_rfl, by rfl⟩
  under := by kernel_rfl
  few := by decide
theorem doc_rlTy : RecTy rlR 53 28 40 where
  info := ⟨.agg #[.string ⟨#[]⟩, .string ⟨#[]⟩, .int .i64 0], by kernel_rfl, by rfl⟩
  under := by kernel_rfl
  few := by decide
/-- The blocks that ref lays first: its argument, its result, what it builds. -/
theorem ref_enter (w : World) (t t2 : TypeId) (a b : Value) : ∃ w1, ((w.alloc (.cells #[a, b] t)).alloc (.cells #[.slice none 0 0, .slice none 0 0] t2)).alloc (.cells #[.slice none 0 0, .slice none 0 0] t2) = w1 ∧ Box w1 w.heap.size [a, b] ∧ Box w1 (w.heap.size + 1) [.slice none 0 0, .slice none 0 0] ∧ Box w1 (w.heap.size + 2) [.slice none 0 0, .slice none 0 0] ∧ Below w.heap.size w w1 ∧ w1.heap.size = w.heap.size + 3 := by
  refine ⟨_, rfl, ((Box.new w t [a, b]).alloc _).alloc _, (Box.new' _ t2 [.slice none 0 0, .slice none 0 0] (by simp)).alloc _, Box.new' _ t2 [.slice none 0 0, .slice none 0 0] (by simp), (((Below.refl _ _).alloc (Nat.le_refl _) _).alloc (by simp) _).alloc (by simp; omega) _, by simp⟩
theorem own_keep {w w' : World} {B B' e size n : Nat} {v : Value} {xs : List Value} (h : w.ownsRow B e size v n xs) (hb : Below B' w w') (hl : ∀ g, v.ownBlock = some g → g < B') : w'.ownsRow B e size v n xs := by
  obtain ⟨h1, h2⟩ := h
  refine ⟨h1, ?_⟩
  rcases h2 with h2 | ⟨g, cap, cur, hv, hg, hh, r⟩
  · exact .inl h2
  · refine .inr ⟨g, cap, cur, hv, hg, ?_, r⟩
    rw [hb.block g (hl g (by rw [hv]; rfl))]; exact hh
set_option maxRecDepth 100000 in
set_option maxHeartbeats 6400000 in
theorem tref_own {w : World} {A B : Option Addr} {ca cb : Nat} {rows : List Rl10} {exs : List Xp} (hA : SlX rlR w A rows.length rows) (hB : SlX xpR w B exs.length exs) (hr : rows.length * 40 ≤ 2 ^ 47) (he : exs.length ≤ 90000) :
    Calls Tryd.prog 10 #[.agg #[.slice A rows.length ca, .slice B exs.length cb]] w fun e w' => ∃ A' ca' B' cb', e = .returned (.agg #[.slice A' rows.length ca', .slice B' exs.length cb']) ∧ SlX rlR w' A' rows.length rows ∧ SlX xpR w' B' exs.length exs ∧ (A' = none → ca' = 0) ∧ (B' = none → cb' = 0) ∧ w'.ownsRow w.heap.size 53 3 (.slice A' rows.length ca') rows.length (rlR.cells rows) ∧ w'.ownsRow w.heap.size 51 6 (.slice B' exs.length cb') exs.length (xpR.cells exs) ∧ Below w.heap.size w w' := by
  obtain ⟨n, hn⟩ : ∃ n, rows.length = n := ⟨_, rfl⟩
  obtain ⟨m, hm⟩ : ∃ m, exs.length = m := ⟨_, rfl⟩
  rw [hn] at hA hr ⊢
  rw [hm] at hB he ⊢
  have HA := Lib.hid hA; have HB := Lib.hid hB; have HN := Lib.hid hn; have HM := Lib.hid hm
  have gn : (n : Int) ≤ 140737488355328 := by omega
  have gm : (m : Int) ≤ 90000 := by omega
  clear hA hB hn hm
  obtain ⟨w1, hw1, TB, RB, OB, b1, hs1⟩ := ref_enter w 25 31 (.slice A n ca) (.slice B m cb)
  obtain ⟨L, hL⟩ : ∃ L, w.heap.size = L := ⟨_, rfl⟩
  rw [hL] at TB RB OB b1 hs1 ⊢
  have TB := Lib.hid TB; have RB := Lib.hid RB; have OB := Lib.hid OB; have B1 := Lib.hid b1; have HS1 := Lib.hid hs1
  obtain ⟨p0, p1⟩ := bx2 TB.out
  have hsz := TB.out.1
  have HW1 := Lib.hid hw1; have HL := Lib.hid hL
  have hLs : L + 1 < w1.heap.size := by omega
  clear hw1 b1 hs1
  go_enter Tryd.func10, Tryd.ntmps10
  go_upto_region 2 with fail
  rw [HW1.out]
  (try rw [hL])
  clear HW1
  go_wp2_with fail
  clear p0 p1 hsz hLs
  go_loopw [11] (fun i wr => ∃ (k : Nat) (v : Value), k ≤ n ∧ i = .int .i64 k ∧ Hid (Box wr (L + 2) [v, .slice none 0 0]) ∧ Hid (Box wr L [.slice A n ca, .slice B m cb]) ∧ Hid (Box wr (L + 1) [.slice none 0 0, .slice none 0 0]) ∧ Hid (wr.ownsRow (L + 3) 53 3 v k (rlR.cells (rows.take k))) ∧ Hid (Below L w wr)) (fun i _ => n - (intOf i).toNat)
  case atStart => exact ⟨0, .slice none 0 0, Nat.zero_le _, rfl, OB, TB, RB, Lib.hid (World.ownsRow_nil _ _ _ _), B1⟩
  case round =>
    clear OB TB RB B1
    obtain ⟨k, v, hk, rfl, I1, I2, I3, I4, I5⟩ := hrel
    by_cases hlt : k < n
    · have IA := HA.out.on (by rw [HL.out]; exact I5.out)
      obtain ⟨b, off, rfl, hc⟩ := IA.at hlt
      have hkl : k < rows.length := by rw [HN.out]; exact hlt
      obtain ⟨y, hy⟩ : ∃ y, rows[k] = y := ⟨_, rfl⟩
      have hc := hc k hkl
      rw [hy] at hc
      have c0 : wr.cell? ⟨b, off + k * 3, none⟩ = some (.string ⟨y.kind.toArray⟩) := by simpa [rlR] using hc 0 _ rfl
      have c1 : wr.cell? ⟨b, off + k * 3 + 1, none⟩ = some (.string ⟨y.name.toArray⟩) := hc 1 _ rfl
      have c2 : wr.cell? ⟨b, off + k * 3 + 2, none⟩ = some (.int .i64 y.expr) := hc 2 _ rfl
      have hsb := World.block_lt_of_cell? wr _ c0
      obtain ⟨w2, hw2, YB, b2⟩ : ∃ w2, wr.alloc (.cells (rlC y).toArray 54) = w2 ∧ Box w2 wr.heap.size (rlC y) ∧ Below wr.heap.size wr w2 := ⟨_, rfl, Box.new _ _ _, (Below.refl _ _).alloc (Nat.le_refl _) _⟩
      have O2 := I1.out.on b2
      obtain ⟨o0, o1⟩ := bx2 O2
      obtain ⟨y0, y1, y2⟩ := box3 YB
      have hy2 := YB.1
      have ho2 := O2.1
      have R2 := Lib.hid (own_kept I4.out b2)
      have htk : (rows.take k).length = k := by rw [List.length_take]; omega
      have R2r : Hid (w2.ownsRow (L + 3) 53 rlR.k v (rows.take k).length (rlR.cells (rows.take k))) := Lib.hid (by rw [htk]; exact R2.out)
      have hcl : L + 3 ≤ w2.heap.size := by have := I1.out.1; have := b2.size; omega
      have hnk : ((rows.take k).length + 1) * 40 ≤ 2 ^ 47 := by rw [htk]; omega
      have O2 := Lib.hid O2
      have T2 := Lib.hid (I2.out.on b2); have E2 := Lib.hid (I3.out.on b2)
      have B2 := Lib.hid (I5.out.trans (b2.mono (Nat.le_of_lt I2.out.1)))
      have HY := Lib.hid hy
      unfold rlC at hw2
      have HW2 := Lib.hid hw2
      clear hc hw2 b2 YB I1 I2 I3 I4 I5 IA hy
      go_upto_region 5 with fail
      rw [HW2.out]
      clear HW2 c0 c1 c2 hsb
      go_wp2_with (at_builtin; refine append_recW doc_rlTy rfl _ _ rfl (L + 3) v (rows.take k) y (by rfl) R2r.out (by rfl) hnk (by omega) hcl ?_)
      intro v' w3 hown hb3
      have O3 := O2.out.keep hb3 (Nat.lt_succ_self _)
      have T3 := T2.out.keep hb3 (by omega)
      have E3 := E2.out.keep hb3 (by omega)
      have B3 := B2.out.trans (hb3.mono (by omega))
      obtain ⟨g0, g1⟩ := bx2 O3
      obtain ⟨h0, h1⟩ := bx2f O3
      have hs3 := O3.1
      have htk1 : rows.take (k + 1) = rows.take k ++ [y] := by rw [List.take_succ_eq_append_getElem hkl, HY.out]
      have FIN : Hid (Box (w3.setCell ⟨L + 2, 0, none⟩ v') (L + 2) [v', .slice none 0 0] ∧ Box (w3.setCell ⟨L + 2, 0, none⟩ v') L [.slice (some ⟨b, off, none⟩) n ca, .slice B m cb] ∧ Box (w3.setCell ⟨L + 2, 0, none⟩ v') (L + 1) [.slice none 0 0, .slice none 0 0] ∧ (w3.setCell ⟨L + 2, 0, none⟩ v').ownsRow (L + 3) 53 3 v' (k + 1) (rlR.cells (rows.take (k + 1))) ∧ Below L w (w3.setCell ⟨L + 2, 0, none⟩ v')) := Lib.hid (by
        refine ⟨O3.set 0 (by simp) v', T3.far (by show L + 2 ≠ L; omega) v', E3.far (by show L + 2 ≠ L + 1; omega) v', ?_, B3.setCell (by show L ≤ L + 2; omega) v'⟩
        rw [htk1]; exact ownsRow_setCell_below hown (by show L + 2 < L + 3; omega) v')
      obtain ⟨vA, vc, rfl, _⟩ := own_slice hown
      clear hown hb3 O3 T3 E3 B3 O2 T2 E2 B2 R2 R2r o0 o1 y0 y1 y2 hy2 ho2 htk1
      go_wp2_with fail
      exact ⟨⟨k + 1, _, by omega, rfl, Lib.hid FIN.out.1, Lib.hid FIN.out.2.1, Lib.hid FIN.out.2.2.1, Lib.hid FIN.out.2.2.2.1, Lib.hid FIN.out.2.2.2.2⟩, by simp [intOf]; omega⟩
    · obtain rfl : k = n := by omega
      have htn : rows.take k = rows := List.take_of_length_le (by rw [HN.out]; exact Nat.le_refl _)
      obtain ⟨vA, vc, rfl, hva⟩ := own_slice I4.out
      have OWA : Hid (wr.ownsRow (L + 3) 53 3 (.slice vA k vc) k (rlR.cells rows)) := Lib.hid (by have h := I4.out; rwa [htn] at h)
      have SA : Hid (SlX rlR wr vA k rows) := Lib.hid (by
        have h := I4.out
        rw [htn] at h
        obtain ⟨A', c', e, _, _, h⟩ := slr_of_own h HN.out
        cases e; exact h)
      have HVA := Lib.hid hva
      have FVA := Lib.hid (own_from I4.out)
      obtain ⟨t0, t1⟩ := bx2 I2.out
      have hst := I2.out.1
      obtain ⟨N2, hN2⟩ : ∃ N, wr.heap.size = N := ⟨_, rfl⟩
      have HN2 := Lib.hid hN2
      have HVB : Hid (∀ g, (Value.slice vA k vc).ownBlock = some g → g < N2) := Lib.hid (fun g e => by rw [← hN2]; exact (OWA.out.lt g e).2)
      have hN3 : L + 3 ≤ N2 := by have := I1.out.1; omega
      clear hva htn I4 hlt hk hN2
      obtain ⟨wo, hwo⟩ : ∃ wo, wo = wr := ⟨_, rfl⟩
      subst hwo
      go_wp2_with fail
      clear t0 t1 hst
      go_loopw [25] (fun i wx => ∃ (q : Nat) (v : Value), q ≤ m ∧ i = .int .i64 q ∧ Hid (Box wx (L + 2) [.slice vA k vc, v]) ∧ Hid (Box wx L [.slice A k ca, .slice B m cb]) ∧ Hid (Box wx (L + 1) [.slice none 0 0, .slice none 0 0]) ∧ Hid (wx.ownsRow N2 51 6 v q (xpR.cells (exs.take q))) ∧ Hid (Below L w wx) ∧ Hid (N2 ≤ wx.heap.size ∧ ∀ p : Addr, p.block < N2 → p.block ≠ L + 2 → wx.cell? p = wo.cell? p) ∧ Hid (wx.ownsRow (L + 3) 53 3 (.slice vA k vc) k (rlR.cells rows))) (fun i _ => m - (intOf i).toNat)
      case atStart => exact ⟨0, .slice none 0 0, Nat.zero_le _, rfl, I1, I2, I3, Lib.hid (World.ownsRow_nil _ _ _ _), I5, Lib.hid ⟨Nat.le_of_eq HN2.out.symm, fun _ _ _ => rfl⟩, OWA⟩
      case round =>
        clear I1 I2 I3 I5 OWA
        obtain ⟨q, v, hq, rfl, I1, I2, I3, I4, I5, I6, I7⟩ := hrel
        by_cases hlt : q < m
        · have IB := HB.out.on (by rw [HL.out]; exact I5.out)
          obtain ⟨b, off, rfl, hc⟩ := IB.at hlt
          have hql : q < exs.length := by rw [HM.out]; exact hlt
          obtain ⟨y, hy⟩ : ∃ y, exs[q] = y := ⟨_, rfl⟩
          have hc := hc q hql
          rw [hy] at hc
          have c0 : wr.cell? ⟨b, off + q * 6, none⟩ = some (.string ⟨y.op.toArray⟩) := by simpa [xpR] using hc 0 _ rfl
          have c1 : wr.cell? ⟨b, off + q * 6 + 1, none⟩ = some (.string ⟨y.name.toArray⟩) := hc 1 _ rfl
          have c2 : wr.cell? ⟨b, off + q * 6 + 2, none⟩ = some (.int .i64 y.value) := hc 2 _ rfl
          have c3 : wr.cell? ⟨b, off + q * 6 + 3, none⟩ = some (.int .i64 y.a) := hc 3 _ rfl
          have c4 : wr.cell? ⟨b, off + q * 6 + 4, none⟩ = some (.int .i64 y.b) := hc 4 _ rfl
          have c5 : wr.cell? ⟨b, off + q * 6 + 5, none⟩ = some (.int .i64 y.c) := hc 5 _ rfl
          have hsb := World.block_lt_of_cell? wr _ c0
          obtain ⟨w2, hw2, YB, b2⟩ : ∃ w2, wr.alloc (.cells (xpC y).toArray 45) = w2 ∧ Box w2 wr.heap.size (xpC y) ∧ Below wr.heap.size wr w2 := ⟨_, rfl, Box.new _ _ _, (Below.refl _ _).alloc (Nat.le_refl _) _⟩
          have O2 := I1.out.on b2
          obtain ⟨o0, o1⟩ := bx2 O2
          obtain ⟨y0, y1, y2, y3, y4, y5⟩ := box6 YB
          have hy2 := YB.1
          have ho2 := O2.1
          have R2 := Lib.hid (own_kept I4.out b2)
          have Q2 := Lib.hid (own_kept I7.out b2)
          have htk : (exs.take q).length = q := by rw [List.length_take]; omega
          have R2r : Hid (w2.ownsRow N2 51 xpR.k v (exs.take q).length (xpR.cells (exs.take q))) := Lib.hid (by rw [htk]; exact R2.out)
          have hcl : N2 ≤ w2.heap.size := Nat.le_trans I6.out.1 b2.size
          have hnk : (exs.take q).length + 1 ≤ 100000 := by rw [htk]; omega
          have O2 := Lib.hid O2
          have T2 := Lib.hid (I2.out.on b2); have E2 := Lib.hid (I3.out.on b2)
          have B2 := Lib.hid (I5.out.trans (b2.mono (Nat.le_of_lt I2.out.1)))
          have C2 : Hid (∀ p : Addr, p.block < N2 → p.block ≠ L + 2 → w2.cell? p = wo.cell? p) := Lib.hid (fun p h1 h2 => (b2.cell (Nat.lt_of_lt_of_le h1 I6.out.1)).trans (I6.out.2 p h1 h2))
          have HY := Lib.hid hy
          unfold xpC at hw2
          have HW2 := Lib.hid hw2
          clear hc hw2 b2 YB I1 I2 I3 I4 I5 I6 I7 IB hy
          go_upto_region 10 with fail
          rw [HW2.out]
          clear HW2 c0 c1 c2 c3 c4 c5 hsb
          go_wp2_with (at_builtin; refine append_rec doc_xpTy rfl _ _ rfl N2 v (exs.take q) y (by rfl) R2r.out (by rfl) hnk hcl ?_)
          intro v' w3 hown hb3
          have O3 := O2.out.keep hb3 (by omega)
          have T3 := T2.out.keep hb3 (by omega)
          have E3 := E2.out.keep hb3 (by omega)
          have B3 := B2.out.trans (hb3.mono (by omega))
          obtain ⟨g0, g1⟩ := bx2 O3
          obtain ⟨h0, h1⟩ := bx2f O3
          have hs3 := O3.1
          have htk1 : exs.take (q + 1) = exs.take q ++ [y] := by rw [List.take_succ_eq_append_getElem hql, HY.out]
          have FIN : Hid (Box (w3.setCell ⟨L + 2, 1, none⟩ v') (L + 2) [.slice vA k vc, v'] ∧ Box (w3.setCell ⟨L + 2, 1, none⟩ v') L [.slice A k ca, .slice (some ⟨b, off, none⟩) m cb] ∧ Box (w3.setCell ⟨L + 2, 1, none⟩ v') (L + 1) [.slice none 0 0, .slice none 0 0] ∧ (w3.setCell ⟨L + 2, 1, none⟩ v').ownsRow N2 51 6 v' (q + 1) (xpR.cells (exs.take (q + 1))) ∧ Below L w (w3.setCell ⟨L + 2, 1, none⟩ v') ∧ (N2 ≤ (w3.setCell ⟨L + 2, 1, none⟩ v').heap.size ∧ ∀ p : Addr, p.block < N2 → p.block ≠ L + 2 → (w3.setCell ⟨L + 2, 1, none⟩ v').cell? p = wo.cell? p) ∧ (w3.setCell ⟨L + 2, 1, none⟩ v').ownsRow (L + 3) 53 3 (.slice vA k vc) k (rlR.cells rows)) := Lib.hid (by
            refine ⟨O3.set 1 (by simp) v', T3.far (by show L + 2 ≠ L; omega) v', E3.far (by show L + 2 ≠ L + 1; omega) v', ?_, B3.setCell (by show L ≤ L + 2; omega) v', ⟨?_, fun p h1 h2 => ?_⟩, ownsRow_setCell_below (own_keep Q2.out hb3 HVB.out) (by show L + 2 < L + 3; omega) v'⟩
            · rw [htk1]; exact ownsRow_setCell_below hown (by show L + 2 < N2; omega) v'
            · simp only [World.size_setCell]; exact Nat.le_trans hcl hb3.size
            · rw [World.cell?_setCell_far _ _ _ _ (fun e => h2 e.symm)]
              exact (hb3.cell h1).trans (C2.out p h1 h2))
          obtain ⟨vX, vxc, rfl, _⟩ := own_slice hown
          clear hown hb3 O3 T3 E3 B3 O2 T2 E2 B2 R2 R2r o0 o1 y0 y1 y2 y3 y4 y5 hy2 ho2 htk1 C2
          go_wp2_with fail
          exact ⟨⟨q + 1, _, by omega, rfl, Lib.hid FIN.out.1, Lib.hid FIN.out.2.1, Lib.hid FIN.out.2.2.1, Lib.hid FIN.out.2.2.2.1, Lib.hid FIN.out.2.2.2.2.1, Lib.hid FIN.out.2.2.2.2.2.1, Lib.hid FIN.out.2.2.2.2.2.2⟩, by simp [intOf]; omega⟩
        · obtain rfl : q = m := by omega
          have htn : exs.take q = exs := List.take_of_length_le (by rw [HM.out]; exact Nat.le_refl _)
          obtain ⟨vX, vxc, rfl, hvx⟩ := own_slice I4.out
          have OX : wr.ownsRow N2 51 6 (.slice vX q vxc) q (xpR.cells exs) := by have h := I4.out; rwa [htn] at h
          have SX : SlX xpR wr vX q exs := by
            have h := I4.out
            rw [htn] at h
            obtain ⟨A', c', e, _, _, h⟩ := slr_of_own h HM.out
            cases e; exact h
          have SA2 : SlX rlR wr vA k rows := SA.out.cells (fun b hb h0 o => by
            obtain ⟨off, rfl⟩ := hb
            have h1 := FVA.out _ rfl
            obtain ⟨b', off', e, hc⟩ := SA.out.at (i := 0) (by omega)
            cases e
            have h2 := World.block_lt_of_cell? wo _ (hc 0 (by rw [HN.out]; omega) 0 _ rfl)
            exact I6.out.2 ⟨b, o, none⟩ (by rw [← HN2.out]; exact h2) (by show b ≠ L + 2; have h1 : L + 3 ≤ b := h1; omega))
          obtain ⟨wz, hwz, RZ, ON⟩ := st2x I3.out (.slice vA k vc) (.slice vX q vxc)
          have FX := own_from I4.out
          obtain ⟨o0, o1⟩ := bx2 I1.out
          obtain ⟨d0, d1⟩ := bx2 I3.out
          obtain ⟨f0, f1⟩ := bx2f I3.out
          obtain ⟨r0, r1⟩ := bx2 RZ
          rw [← hwz] at r0 r1
          have hs1 := I1.out.1
          have FIN : Hid (SlX rlR wz vA k rows ∧ SlX xpR wz vX q exs ∧ wz.ownsRow L 53 3 (.slice vA k vc) k (rlR.cells rows) ∧ wz.ownsRow L 51 6 (.slice vX q vxc) q (xpR.cells exs) ∧ Below L w wz) := Lib.hid (by
            have fl : ∀ a, vA = some a → L + 3 ≤ a.block := FVA.out
            have fx : ∀ a, vX = some a → L + 3 ≤ a.block := fun a e => Nat.le_trans hN3 (FX a e)
            have hl13 : L + 1 < L + 3 := by omega
            rw [← hwz]
            exact ⟨(SA2.far fl hl13 _).far fl hl13 _, (SX.far fx hl13 _).far fx hl13 _, (ownsRow_setCell_below (ownsRow_setCell_below I7.out hl13 _) hl13 _).mono (by omega), (ownsRow_setCell_below (ownsRow_setCell_below OX (by show L + 1 < N2; omega) _) (by show L + 1 < N2; omega) _).mono (by omega), (I5.out.setCell (Nat.le_succ _) _).setCell (Nat.le_succ _) _⟩)
          have HWZ := Lib.hid hwz
          have HVX := Lib.hid hvx
          clear hwz RZ ON I1 I2 I3 I4 I5 I6 I7 OX SX SA2 FX hvx htn hlt
          go_wp2_with fail
          (try simp only [Exit.inBlock, Exit.then])
          refine bodyPost_ret (by simp [results, Tryd.results10, go_sem, r0, r1]; try rfl) rfl ?_
          rw [HWZ.out]
          exact ⟨vA, vc, vX, vxc, rfl, FIN.out.1, FIN.out.2.1, HVA.out, HVX.out, FIN.out.2.2.1, FIN.out.2.2.2.1, by first | exact FIN.out.2.2.2.2 | (rw [HL.out]; exact FIN.out.2.2.2.2)⟩
theorem tref_any {w : World} {A B : Option Addr} {ca cb : Nat} {rows : List Rl10} {exs : List Xp} (hA : SlX rlR w A rows.length rows) (hB : SlX xpR w B exs.length exs) (hr : rows.length * 40 ≤ 2 ^ 47) (he : exs.length ≤ 90000) :
    Calls Tryd.prog 10 #[.agg #[.slice A rows.length ca, .slice B exs.length cb]] w fun e w' => ∃ A' ca' B' cb', e = .returned (.agg #[.slice A' rows.length ca', .slice B' exs.length cb']) ∧ SlX rlR w' A' rows.length rows ∧ SlX xpR w' B' exs.length exs ∧ (A' = none → ca' = 0) ∧ (B' = none → cb' = 0) ∧ Below w.heap.size w w' :=
  (tref_own hA hB hr he).mono fun _ _ ⟨A', ca', B', cb', h1, h2, h3, h4, h5, _, _, h8⟩ => ⟨A', ca', B', cb', h1, h2, h3, h4, h5, h8⟩
end Go.Proofs.YtkmehhhgdeiaeaaDoor
