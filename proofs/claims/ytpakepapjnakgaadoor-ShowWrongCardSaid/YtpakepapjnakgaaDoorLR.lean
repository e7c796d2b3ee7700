/-
  A program of tree as the document's: the same rows; two programs of the same rows are the same.
  Same: two programs of the same rows are the same.
  What stage 9's statements have in common.
-/
import Derived.Test.YtpakepapjnakgaaDoorLaw09AwakeG
import Derived.Deep.Onto
import Derived.BigQuiet

namespace Go.Proofs.YtpakepapjnakgaaDoor
open Go.RowKit
open PTree (Ex Row)

theorem doc_exTy : RecTy exR 62 34 64 where
  info := ⟨.agg #[.string ⟨#[]⟩, .string ⟨#[]⟩, .int .i64 0, .int .i64 0, .int .i64 0, .int .i64 0], by kernel_rfl, by rfl⟩
  under := by kernel_rfl
  few := by decide
theorem doc_rowTy : RecTy rowR 61 33 40 where
  info := ⟨.agg #[.string ⟨#[]⟩, .string ⟨#[]⟩, .int .i64 0], by kernel_rfl, by rfl⟩
  under := by kernel_rfl
  few := by decide
/-- The blocks that ref lays first: its argument, its result, what it builds. -/
theorem ref_enter (w : World) (t t2 : TypeId) (a b : Value) : ∃ w1, ((w.alloc (.cells #[a, b] t)).alloc (.cells #[.slice none 0 0, .slice none 0 0] t2)).alloc (.cells #[.slice none 0 0, .slice none 0 0] t2) = w1 ∧ Box w1 w.heap.size [a, b] ∧ Box w1 (w.heap.size + 1) [.slice none 0 0, .slice none 0 0] ∧ Box w1 (w.heap.size + 2) [.slice none 0 0, .slice none 0 0] ∧ Below w.heap.size w w1 ∧ w1.heap.size = w.heap.size + 3 := by
  refine ⟨_, rfl, ((Box.new w t [a, b]).alloc _).alloc _, (Box.new' _ t2 [.slice none 0 0, .slice none 0 0] (by simp)).alloc _, Box.new' _ t2 [.slice none 0 0, .slice none 0 0] (by simp), (((Below.refl _ _).alloc (Nat.le_refl _) _).alloc (by simp) _).alloc (by simp; omega) _, by simp⟩
theorem own_keep {w w' : World} {B B' e size n : Nat} {v : Value} {xs : List Value} (h : w.ownsRow B e size v n xs) (hb : Below B' w w') (hl : ∀ g, v.ownBlock = some g → g < B') : w'.ownsRow B e size v n xs := by
  obtain ⟨h1, h2⟩ := h
  refine ⟨h1, ?_⟩
  rcases h2 with h2 | ⟨g, cap, cur, hv, hg, hh, r⟩
  · exact .inl h2
  · refine .inr ⟨g, cap, cur, hv, hg, ?_, r⟩
    rw [hb.block g (hl g (by rw [hv]; rfl))]; exact hh
set_option maxRecDepth 100000 in
set_option maxHeartbeats 6400000 in
theorem tref_own {w : World} {A B : Option Addr} {ca cb : Nat} {rows : List Row} {exs : List Ex} (hA : SlX rowR w A rows.length rows) (hB : SlX exR w B exs.length exs) (hr : rows.length ≤ 90000) (he : exs.length ≤ 90000) :
    Calls Tryd.prog 12 #[.agg #[.slice A rows.length ca, .slice B exs.length cb]] w fun e w' => ∃ A' ca' B' cb', e = .returned (.agg #[.slice A' rows.length ca', .slice B' exs.length cb']) ∧ SlX rowR w' A' rows.length rows ∧ SlX exR w' B' exs.length exs ∧ (A' = none → ca' = 0) ∧ (B' = none → cb' = 0) ∧ w'.ownsRow w.heap.size 61 3 (.slice A' rows.length ca') rows.length (rowR.cells rows) ∧ w'.ownsRow w.heap.size 62 6 (.slice B' exs.length cb') exs.length (exR.cells exs) ∧ Below w.heap.size w w' := by
  obtain ⟨n, hn⟩ : ∃ n, rows.length = n := ⟨_, rfl⟩
  obtain ⟨m, hm⟩ : ∃ m, exs.length = m := ⟨_, rfl⟩
  rw [hn] at hA hr ⊢
  rw [hm] at hB he ⊢
  have HA := Lib.hid hA; have HB := Lib.hid hB; have HN := Lib.hid hn; have HM := Lib.hid hm
  have gn : (n : Int) ≤ 90000 := by omega
  have gm : (m : Int) ≤ 90000 := by omega
  clear hA hB hn hm
  obtain ⟨w1, hw1, TB, RB, OB, b1, hs1⟩ := ref_enter w 26 36 (.slice A n ca) (.slice B m cb)
  obtain ⟨L, hL⟩ : ∃ L, w.heap.size = L := ⟨_, rfl⟩
  rw [hL] at TB RB OB b1 hs1 ⊢
  have TB := Lib.hid TB; have RB := Lib.hid RB; have OB := Lib.hid OB; have B1 := Lib.hid b1; have HS1 := Lib.hid hs1
  obtain ⟨p0, p1⟩ := box2 TB.out
  have hsz := TB.out.1
  have HW1 := Lib.hid hw1; have HL := Lib.hid hL
  have hLs : L + 1 < w1.heap.size := by omega
  clear hw1 b1 hs1
  go_enter Tryd.func12, Tryd.ntmps12
  go_upto_region 2 with fail
  rw [HW1.out]
  (try rw [hL])
  clear HW1
  go_wp2_with fail
  clear p0 p1 hsz hLs
  go_loopw [11] (fun i wr => ∃ (k : Nat) (v : Value), k ≤ n ∧ i = .int .i64 k ∧ Hid (Box wr (L + 2) [v, .slice none 0 0]) ∧ Hid (Box wr L [.slice A n ca, .slice B m cb]) ∧ Hid (Box wr (L + 1) [.slice none 0 0, .slice none 0 0]) ∧ Hid (wr.ownsRow (L + 3) 61 3 v k (rowR.cells (rows.take k))) ∧ Hid (Below L w wr)) (fun i _ => n - (intOf i).toNat)
  case atStart => exact ⟨0, .slice none 0 0, Nat.zero_le _, rfl, OB, TB, RB, Lib.hid (World.ownsRow_nil _ _ _ _), B1⟩
  case round =>
    clear OB TB RB B1
    obtain ⟨k, v, hk, rfl, I1, I2, I3, I4, I5⟩ := hrel
    by_cases hlt : k < n
    · have IA := HA.out.on (by rw [HL.out]; exact I5.out)
      obtain ⟨b, off, rfl, hc⟩ := IA.at hlt
      have hkl : k < rows.length := by rw [HN.out]; exact hlt
      obtain ⟨y, hy⟩ : ∃ y, rows[k] = y := ⟨_, rfl⟩
      have hc := hc k hkl
      rw [hy] at hc
      have c0 : wr.cell? ⟨b, off + k * 3, none⟩ = some (.string ⟨y.kind.toArray⟩) := by simpa [rowR] using hc 0 _ rfl
      have c1 : wr.cell? ⟨b, off + k * 3 + 1, none⟩ = some (.string ⟨y.name.toArray⟩) := hc 1 _ rfl
      have c2 : wr.cell? ⟨b, off + k * 3 + 2, none⟩ = some (.int .i64 y.root) := hc 2 _ rfl
      have hsb := World.block_lt_of_cell? wr _ c0
      obtain ⟨w2, hw2, YB, b2⟩ : ∃ w2, wr.alloc (.cells (rowC y).toArray 47) = w2 ∧ Box w2 wr.heap.size (rowC y) ∧ Below wr.heap.size wr w2 := ⟨_, rfl, Box.new _ _ _, (Below.refl _ _).alloc (Nat.le_refl _) _⟩
      have O2 := I1.out.on b2
      obtain ⟨o0, o1⟩ := box2 O2
      obtain ⟨y0, y1, y2⟩ := box3 YB
      have hy2 := YB.1
      have ho2 := O2.1
      have R2 := Lib.hid (own_kept I4.out b2)
      have htk : (rows.take k).length = k := by rw [List.length_take]; omega
      have R2r : Hid (w2.ownsRow (L + 3) 61 rowR.k v (rows.take k).length (rowR.cells (rows.take k))) := Lib.hid (by rw [htk]; exact R2.out)
      have hcl : L + 3 ≤ w2.heap.size := by have := I1.out.1; have := b2.size; omega
      have hnk : (rows.take k).length + 1 ≤ 100000 := by rw [htk]; omega
      have O2 := Lib.hid O2
      have T2 := Lib.hid (I2.out.on b2); have E2 := Lib.hid (I3.out.on b2)
      have B2 := Lib.hid (I5.out.trans (b2.mono (Nat.le_of_lt I2.out.1)))
      have HY := Lib.hid hy
      unfold rowC at hw2
      have HW2 := Lib.hid hw2
      clear hc hw2 b2 YB I1 I2 I3 I4 I5 IA hy
      go_upto_region 5 with fail
      rw [HW2.out]
      clear HW2 c0 c1 c2 hsb
      go_wp2_with (at_builtin; refine append_rec doc_rowTy rfl _ _ rfl (L + 3) v (rows.take k) y (by rfl) R2r.out (by rfl) hnk hcl ?_)
      intro v' w3 hown hb3
      have O3 := O2.out.keep hb3 (Nat.lt_succ_self _)
      have T3 := T2.out.keep hb3 (by omega)
      have E3 := E2.out.keep hb3 (by omega)
      have B3 := B2.out.trans (hb3.mono (by omega))
      obtain ⟨g0, g1⟩ := box2 O3
      obtain ⟨h0, h1⟩ := box2f O3
      have hs3 := O3.1
      have htk1 : rows.take (k + 1) = rows.take k ++ [y] := by rw [List.take_succ_eq_append_getElem hkl, HY.out]
      have FIN : Hid (Box (w3.setCell ⟨L + 2, 0, none⟩ v') (L + 2) [v', .slice none 0 0] ∧ Box (w3.setCell ⟨L + 2, 0, none⟩ v') L [.slice (some ⟨b, off, none⟩) n ca, .slice B m cb] ∧ Box (w3.setCell ⟨L + 2, 0, none⟩ v') (L + 1) [.slice none 0 0, .slice none 0 0] ∧ (w3.setCell ⟨L + 2, 0, none⟩ v').ownsRow (L + 3) 61 3 v' (k + 1) (rowR.cells (rows.take (k + 1))) ∧ Below L w (w3.setCell ⟨L + 2, 0, none⟩ v')) := Lib.hid (by
        refine ⟨O3.set 0 (by simp) v', T3.far (by show L + 2 ≠ L; omega) v', E3.far (by show L + 2 ≠ L + 1; omega) v', ?_, B3.setCell (by show L ≤ L + 2; omega) v'⟩
        rw [htk1]; exact ownsRow_setCell_below hown (by show L + 2 < L + 3; omega) v')
      obtain ⟨vA, vc, rfl, _⟩ := own_slice hown
      clear hown hb3 O3 T3 E3 B3 O2 T2 E2 B2 R2 R2r o0 o1 y0 y1 y2 hy2 ho2 htk1
      go_wp2_with fail
      exact ⟨⟨k + 1, _, by omega, rfl, Lib.hid FIN.out.1, Lib.hid FIN.out.2.1, Lib.hid FIN.out.2.2.1, Lib.hid FIN.out.2.2.2.1, Lib.hid FIN.out.2.2.2.2⟩, by simp [intOf]; omega⟩
    · obtain rfl : k = n := by omega
      have htn : rows.take k = rows := List.take_of_length_le (by rw [HN.out]; exact Nat.le_refl _)
      obtain ⟨vA, vc, rfl, hva⟩ := own_slice I4.out
      have OWA : Hid (wr.ownsRow (L + 3) 61 3 (.slice vA k vc) k (rowR.cells rows)) := Lib.hid (by have h := I4.out; rwa [htn] at h)
      have SA : Hid (SlX rowR wr vA k rows) := Lib.hid (by
        have h := I4.out
        rw [htn] at h
        obtain ⟨A', c', e, _, _, h⟩ := slr_of_own h HN.out
        cases e; exact h)
      have HVA := Lib.hid hva
      have FVA := Lib.hid (own_from I4.out)
      obtain ⟨t0, t1⟩ := box2 I2.out
      have hst := I2.out.1
      obtain ⟨N2, hN2⟩ : ∃ N, wr.heap.size = N := ⟨_, rfl⟩
      have HN2 := Lib.hid hN2
      have HVB : Hid (∀ g, (Value.slice vA k vc).ownBlock = some g → g < N2) := Lib.hid (fun g e => by rw [← hN2]; exact (OWA.out.lt g e).2)
      have hN3 : L + 3 ≤ N2 := by have := I1.out.1; omega
      clear hva htn I4 hlt hk hN2
      obtain ⟨wo, hwo⟩ : ∃ wo, wo = wr := ⟨_, rfl⟩
      subst hwo
      go_wp2_with fail
      clear t0 t1 hst
      go_loopw [25] (fun i wx => ∃ (q : Nat) (v : Value), q ≤ m ∧ i = .int .i64 q ∧ Hid (Box wx (L + 2) [.slice vA k vc, v]) ∧ Hid (Box wx L [.slice A k ca, .slice B m cb]) ∧ Hid (Box wx (L + 1) [.slice none 0 0, .slice none 0 0]) ∧ Hid (wx.ownsRow N2 62 6 v q (exR.cells (exs.take q))) ∧ Hid (Below L w wx) ∧ Hid (N2 ≤ wx.heap.size ∧ ∀ p : Addr, p.block < N2 → p.block ≠ L + 2 → wx.cell? p = wo.cell? p) ∧ Hid (wx.ownsRow (L + 3) 61 3 (.slice vA k vc) k (rowR.cells rows))) (fun i _ => m - (intOf i).toNat)
      case atStart => exact ⟨0, .slice none 0 0, Nat.zero_le _, rfl, I1, I2, I3, Lib.hid (World.ownsRow_nil _ _ _ _), I5, Lib.hid ⟨Nat.le_of_eq HN2.out.symm, fun _ _ _ => rfl⟩, OWA⟩
      case round =>
        clear I1 I2 I3 I5 OWA
        obtain ⟨q, v, hq, rfl, I1, I2, I3, I4, I5, I6, I7⟩ := hrel
        by_cases hlt : q < m
        · have IB := HB.out.on (by rw [HL.out]; exact I5.out)
          obtain ⟨b, off, rfl, hc⟩ := IB.at hlt
          have hql : q < exs.length := by rw [HM.out]; exact hlt
          obtain ⟨y, hy⟩ : ∃ y, exs[q] = y := ⟨_, rfl⟩
          have hc := hc q hql
          rw [hy] at hc
          have c0 : wr.cell? ⟨b, off + q * 6, none⟩ = some (.string ⟨y.op.toArray⟩) := by simpa [exR] using hc 0 _ rfl
          have c1 : wr.cell? ⟨b, off + q * 6 + 1, none⟩ = some (.string ⟨y.name.toArray⟩) := hc 1 _ rfl
          have c2 : wr.cell? ⟨b, off + q * 6 + 2, none⟩ = some (.int .i64 y.value) := hc 2 _ rfl
          have c3 : wr.cell? ⟨b, off + q * 6 + 3, none⟩ = some (.int .i64 y.a) := hc 3 _ rfl
          have c4 : wr.cell? ⟨b, off + q * 6 + 4, none⟩ = some (.int .i64 y.b) := hc 4 _ rfl
          have c5 : wr.cell? ⟨b, off + q * 6 + 5, none⟩ = some (.int .i64 y.c) := hc 5 _ rfl
          have hsb := World.block_lt_of_cell? wr _ c0
          obtain ⟨w2, hw2, YB, b2⟩ : ∃ w2, wr.alloc (.cells (exC y).toArray 42) = w2 ∧ Box w2 wr.heap.size (exC y) ∧ Below wr.heap.size wr w2 := ⟨_, rfl, Box.new _ _ _, (Below.refl _ _).alloc (Nat.le_refl _) _⟩
          have O2 := I1.out.on b2
          obtain ⟨o0, o1⟩ := box2 O2
          obtain ⟨y0, y1, y2, y3, y4, y5⟩ := box6 YB
          have hy2 := YB.1
          have ho2 := O2.1
          have R2 := Lib.hid (own_kept I4.out b2)
          have Q2 := Lib.hid (own_kept I7.out b2)
          have htk : (exs.take q).length = q := by rw [List.length_take]; omega
          have R2r : Hid (w2.ownsRow N2 62 exR.k v (exs.take q).length (exR.cells (exs.take q))) := Lib.hid (by rw [htk]; exact R2.out)
          have hcl : N2 ≤ w2.heap.size := Nat.le_trans I6.out.1 b2.size
          have hnk : (exs.take q).length + 1 ≤ 100000 := by rw [htk]; omega
          have O2 := Lib.hid O2
          have T2 := Lib.hid (I2.out.on b2); have E2 := Lib.hid (I3.out.on b2)
          have B2 := Lib.hid (I5.out.trans (b2.mono (Nat.le_of_lt I2.out.1)))
          have C2 : Hid (∀ p : Addr, p.block < N2 → p.block ≠ L + 2 → w2.cell? p = wo.cell? p) := Lib.hid (fun p h1 h2 => (b2.cell (Nat.lt_of_lt_of_le h1 I6.out.1)).trans (I6.out.2 p h1 h2))
          have HY := Lib.hid hy
          unfold exC at hw2
          have HW2 := Lib.hid hw2
          clear hc hw2 b2 YB I1 I2 I3 I4 I5 I6 I7 IB hy
          go_upto_region 10 with fail
          rw [HW2.out]
          clear HW2 c0 c1 c2 c3 c4 c5 hsb
          go_wp2_with (at_builtin; refine append_rec doc_exTy rfl _ _ rfl N2 v (exs.take q) y (by rfl) R2r.out (by rfl) hnk hcl ?_)
          intro v' w3 hown hb3
          have O3 := O2.out.keep hb3 (by omega)
          have T3 := T2.out.keep hb3 (by omega)
          have E3 := E2.out.keep hb3 (by omega)
          have B3 := B2.out.trans (hb3.mono (by omega))
          obtain ⟨g0, g1⟩ := box2 O3
          obtain ⟨h0, h1⟩ := box2f O3
          have hs3 := O3.1
          have htk1 : exs.take (q + 1) = exs.take q ++ [y] := by rw [List.take_succ_eq_append_getElem hql, HY.out]
          have FIN : Hid (Box (w3.setCell ⟨L + 2, 1, none⟩ v') (L + 2) [.slice vA k vc, v'] ∧ Box (w3.setCell ⟨L + 2, 1, none⟩ v') L [.slice A k ca, .slice (some ⟨b, off, none⟩) m cb] ∧ Box (w3.setCell ⟨L + 2, 1, none⟩ v') (L + 1) [.slice none 0 0, .slice none 0 0] ∧ (w3.setCell ⟨L + 2, 1, none⟩ v').ownsRow N2 62 6 v' (q + 1) (exR.cells (exs.take (q + 1))) ∧ Below L w (w3.setCell ⟨L + 2, 1, none⟩ v') ∧ (N2 ≤ (w3.setCell ⟨L + 2, 1, none⟩ v').heap.size ∧ ∀ p : Addr, p.block < N2 → p.block ≠ L + 2 → (w3.setCell ⟨L + 2, 1, none⟩ v').cell? p = wo.cell? p) ∧ (w3.setCell ⟨L + 2, 1, none⟩ v').ownsRow (L + 3) 61 3 (.slice vA k vc) k (rowR.cells rows)) := Lib.hid (by
            refine ⟨O3.set 1 (by simp) v', T3.far (by show L + 2 ≠ L; omega) v', E3.far (by show L + 2 ≠ L + 1; omega) v', ?_, B3.setCell (by show L ≤ L + 2; omega) v', ⟨?_, fun p h1 h2 => ?_⟩, ownsRow_setCell_below (own_keep Q2.out hb3 HVB.out) (by show L + 2 < L + 3; omega) v'⟩
            · rw [htk1]; exact ownsRow_setCell_below hown (by show L + 2 < N2; omega) v'
            · simp only [World.size_setCell]; exact Nat.le_trans hcl hb3.size
            · rw [World.cell?_setCell_far _ _ _ _ (fun e => h2 e.symm)]
              exact (hb3.cell h1).trans (C2.out p h1 h2))
          obtain ⟨vX, vxc, rfl, _⟩ := own_slice hown
          clear hown hb3 O3 T3 E3 B3 O2 T2 E2 B2 R2 R2r o0 o1 y0 y1 y2 y3 y4 y5 hy2 ho2 htk1 C2
          go_wp2_with fail
          exact ⟨⟨q + 1, _, by omega, rfl, Lib.hid FIN.out.1, Lib.hid FIN.out.2.1, Lib.hid FIN.out.2.2.1, Lib.hid FIN.out.2.2.2.1, Lib.hid FIN.out.2.2.2.2.1, Lib.hid FIN.out.2.2.2.2.2.1, Lib.hid FIN.out.2.2.2.2.2.2⟩, by simp [intOf]; omega⟩
        · obtain rfl : q = m := by omega
          have htn : exs.take q = exs := List.take_of_length_le (by rw [HM.out]; exact Nat.le_refl _)
          obtain ⟨vX, vxc, rfl, hvx⟩ := own_slice I4.out
          have OX : wr.ownsRow N2 62 6 (.slice vX q vxc) q (exR.cells exs) := by have h := I4.out; rwa [htn] at h
          have SX : SlX exR wr vX q exs := by
            have h := I4.out
            rw [htn] at h
            obtain ⟨A', c', e, _, _, h⟩ := slr_of_own h HM.out
            cases e; exact h
          have SA2 : SlX rowR wr vA k rows := SA.out.cells (fun b hb h0 o => by
            obtain ⟨off, rfl⟩ := hb
            have h1 := FVA.out _ rfl
            obtain ⟨b', off', e, hc⟩ := SA.out.at (i := 0) (by omega)
            cases e
            have h2 := World.block_lt_of_cell? wo _ (hc 0 (by rw [HN.out]; omega) 0 _ rfl)
            exact I6.out.2 ⟨b, o, none⟩ (by rw [← HN2.out]; exact h2) (by show b ≠ L + 2; have h1 : L + 3 ≤ b := h1; omega))
          obtain ⟨wz, hwz, RZ, ON⟩ := store2 I3.out (.slice vA k vc) (.slice vX q vxc)
          have FX := own_from I4.out
          obtain ⟨o0, o1⟩ := box2 I1.out
          obtain ⟨d0, d1⟩ := box2 I3.out
          obtain ⟨f0, f1⟩ := box2f I3.out
          obtain ⟨r0, r1⟩ := box2 RZ
          rw [← hwz] at r0 r1
          have hs1 := I1.out.1
          have FIN : Hid (SlX rowR wz vA k rows ∧ SlX exR wz vX q exs ∧ wz.ownsRow L 61 3 (.slice vA k vc) k (rowR.cells rows) ∧ wz.ownsRow L 62 6 (.slice vX q vxc) q (exR.cells exs) ∧ Below L w wz) := Lib.hid (by
            have fl : ∀ a, vA = some a → L + 3 ≤ a.block := FVA.out
            have fx : ∀ a, vX = some a → L + 3 ≤ a.block := fun a e => Nat.le_trans hN3 (FX a e)
            have hl13 : L + 1 < L + 3 := by omega
            rw [← hwz]
            exact ⟨(SA2.far fl hl13 _).far fl hl13 _, (SX.far fx hl13 _).far fx hl13 _, (ownsRow_setCell_below (ownsRow_setCell_below I7.out hl13 _) hl13 _).mono (by omega), (ownsRow_setCell_below (ownsRow_setCell_below OX (by show L + 1 < N2; omega) _) (by show L + 1 < N2; omega) _).mono (by omega), (I5.out.setCell (Nat.le_succ _) _).setCell (Nat.le_succ _) _⟩)
          have HWZ := Lib.hid hwz
          have HVX := Lib.hid hvx
          clear hwz RZ ON I1 I2 I3 I4 I5 I6 I7 OX SX SA2 FX hvx htn hlt
          go_wp2_with fail
          (try simp only [Exit.inBlock, Exit.then])
          refine bodyPost_ret (by simp [results, Tryd.results12, go_sem, r0, r1]; try rfl) rfl ?_
          rw [HWZ.out]
          exact ⟨vA, vc, vX, vxc, rfl, FIN.out.1, FIN.out.2.1, HVA.out, HVX.out, FIN.out.2.2.1, FIN.out.2.2.2.1, by first | exact FIN.out.2.2.2.2 | (rw [HL.out]; exact FIN.out.2.2.2.2)⟩
theorem tref_any {w : World} {A B : Option Addr} {ca cb : Nat} {rows : List Row} {exs : List Ex} (hA : SlX rowR w A rows.length rows) (hB : SlX exR w B exs.length exs) (hr : rows.length ≤ 90000) (he : exs.length ≤ 90000) :
    Calls Tryd.prog 12 #[.agg #[.slice A rows.length ca, .slice B exs.length cb]] w fun e w' => ∃ A' ca' B' cb', e = .returned (.agg #[.slice A' rows.length ca', .slice B' exs.length cb']) ∧ SlX rowR w' A' rows.length rows ∧ SlX exR w' B' exs.length exs ∧ (A' = none → ca' = 0) ∧ (B' = none → cb' = 0) ∧ Below w.heap.size w w' :=
  (tref_own hA hB hr he).mono fun _ _ ⟨A', ca', B', cb', h1, h2, h3, h4, h5, _, _, h8⟩ => ⟨A', ca', B', cb', h1, h2, h3, h4, h5, h8⟩
end Go.Proofs.YtpakepapjnakgaaDoor

namespace Go.Proofs.YtpakepapjnakgaaDoor
open Go.RowKit
open PTree (Ex Row)

/-- The blocks of two arguments. -/
theorem same_enter (w : World) (t : TypeId) (a b c d : Value) : ∃ w1, (w.alloc (.cells #[a, b] t)).alloc (.cells #[c, d] t) = w1 ∧ Box w1 w.heap.size [a, b] ∧ Box w1 (w.heap.size + 1) [c, d] ∧ Below w.heap.size w w1 := by
  refine ⟨_, rfl, (Box.new w t [a, b]).alloc _, Box.new' _ t [c, d] (by simp), ((Below.refl _ _).alloc (Nat.le_refl _) _).alloc (by simp) _⟩
set_option maxRecDepth 100000 in
set_option maxHeartbeats 6400000 in
theorem tsame_any {w : World} {A B A' B' : Option Addr} {n m ca cb ca' cb' : Nat} {rows : List Row} {exs : List Ex} (hA : SlX rowR w A n rows) (hB : SlX exR w B m exs) (hA' : SlX rowR w A' n rows) (hB' : SlX exR w B' m exs) (hr : rows.length = n) (he : exs.length = m) (hn : n ≤ 90000) (hm : m ≤ 90000) :
    Calls Tryd.prog 11 #[.agg #[.slice A n ca, .slice B m cb], .agg #[.slice A' n ca', .slice B' m cb']] w fun e w' => e = .returned (.bool true) ∧ Below w.heap.size w w' := by
  obtain ⟨w1, hw1, TB, UB, b1⟩ := same_enter w 36 (.slice A n ca) (.slice B m cb) (.slice A' n ca') (.slice B' m cb')
  have SA := Lib.hid (hA.on b1); have SB := Lib.hid (hB.on b1); have SA' := Lib.hid (hA'.on b1); have SB' := Lib.hid (hB'.on b1)
  have HR := Lib.hid hr; have HE := Lib.hid he
  have gn : (n : Int) ≤ 90000 := by omega
  have gm : (m : Int) ≤ 90000 := by omega
  have nn : ((n : Int) != (n : Int)) = false := bne_self_eq_false _
  have mm : ((m : Int) != (m : Int)) = false := bne_self_eq_false _
  obtain ⟨p0, p1⟩ := box2 TB
  obtain ⟨q0, q1⟩ := box2 UB
  have hs0 := TB.1
  have hs1 := UB.1
  have TB := Lib.hid TB; have UB := Lib.hid UB; have B1 := Lib.hid b1
  have HW1 := Lib.hid hw1
  clear hA hB hA' hB' hr he b1 hw1
  go_enter Tryd.func11, Tryd.ntmps11
  go_upto_region 1 with fail
  rw [HW1.out]
  clear HW1
  go_wp2_with fail
  clear p0 p1 q0 q1 hs0 hs1
  go_loopw [5] (fun i wr => ∃ (k : Nat), k ≤ n ∧ i = .int .i64 k ∧ Hid (Below w1.heap.size w1 wr)) (fun i _ => n - (intOf i).toNat)
  case atStart => exact ⟨0, Nat.zero_le _, rfl, Lib.hid (Below.refl _ _)⟩
  case round =>
    obtain ⟨k, hk, rfl, I⟩ := hrel
    have T2 := TB.out.on I.out
    have U2 := UB.out.on I.out
    obtain ⟨p0, p1⟩ := box2 T2
    obtain ⟨q0, q1⟩ := box2 U2
    have hs0 := T2.1
    have hs1 := U2.1
    by_cases hlt : k < n
    · obtain ⟨b, off, rfl, hc⟩ := (SA.out.on I.out).at hlt
      obtain ⟨b', off', rfl, hc'⟩ := (SA'.out.on I.out).at hlt
      have hkl : k < rows.length := by rw [HR.out]; exact hlt
      obtain ⟨y, hy⟩ : ∃ y, rows[k] = y := ⟨_, rfl⟩
      have hc := hc k hkl
      have hc' := hc' k hkl
      rw [hy] at hc hc'
      have c0 : wr.cell? ⟨b, off + k * 3, none⟩ = some (.string ⟨y.kind.toArray⟩) := by simpa [rowR] using hc 0 _ rfl
      have c1 : wr.cell? ⟨b, off + k * 3 + 1, none⟩ = some (.string ⟨y.name.toArray⟩) := hc 1 _ rfl
      have c2 : wr.cell? ⟨b, off + k * 3 + 2, none⟩ = some (.int .i64 y.root) := hc 2 _ rfl
      have e0 : wr.cell? ⟨b', off' + k * 3, none⟩ = some (.string ⟨y.kind.toArray⟩) := by simpa [rowR] using hc' 0 _ rfl
      have e1 : wr.cell? ⟨b', off' + k * 3 + 1, none⟩ = some (.string ⟨y.name.toArray⟩) := hc' 1 _ rfl
      have e2 : wr.cell? ⟨b', off' + k * 3 + 2, none⟩ = some (.int .i64 y.root) := hc' 2 _ rfl
      have hsb := World.block_lt_of_cell? wr _ c0
      have hsb' := World.block_lt_of_cell? wr _ e0
      clear hc hc' T2 U2 hy
      go_wp2_with fail
      go_big_quiet (fail)
      go_wp2_with fail
      exact ⟨⟨k + 1, by omega, rfl, Lib.hid (below_drewT I.out _)⟩, by simp [intOf]; omega⟩
    · obtain rfl : k = n := by omega
      obtain ⟨wo, hwo⟩ : ∃ wo, wo = wr := ⟨_, rfl⟩
      subst hwo
      clear T2 U2 hlt
      go_wp2_with fail
      clear p0 p1 q0 q1 hs0 hs1
      go_loopw [6] (fun i wx => ∃ (q : Nat), q ≤ m ∧ i = .int .i64 q ∧ Hid (Below w1.heap.size w1 wx)) (fun i _ => m - (intOf i).toNat)
      case atStart => exact ⟨0, Nat.zero_le _, rfl, I⟩
      case round =>
        clear I
        obtain ⟨q, hq, rfl, I⟩ := hrel
        have T2 := TB.out.on I.out
        have U2 := UB.out.on I.out
        obtain ⟨p0, p1⟩ := box2 T2
        obtain ⟨q0, q1⟩ := box2 U2
        have hs0 := T2.1
        have hs1 := U2.1
        by_cases hlt : q < m
        · obtain ⟨b, off, rfl, hc⟩ := (SB.out.on I.out).at hlt
          obtain ⟨b', off', rfl, hc'⟩ := (SB'.out.on I.out).at hlt
          have hkl : q < exs.length := by rw [HE.out]; exact hlt
          obtain ⟨y, hy⟩ : ∃ y, exs[q] = y := ⟨_, rfl⟩
          have hc := hc q hkl
          have hc' := hc' q hkl
          rw [hy] at hc hc'
          have c0 : wr.cell? ⟨b, off + q * 6, none⟩ = some (.string ⟨y.op.toArray⟩) := by simpa [exR] using hc 0 _ rfl
          have c1 : wr.cell? ⟨b, off + q * 6 + 1, none⟩ = some (.string ⟨y.name.toArray⟩) := hc 1 _ rfl
          have c2 : wr.cell? ⟨b, off + q * 6 + 2, none⟩ = some (.int .i64 y.value) := hc 2 _ rfl
          have c3 : wr.cell? ⟨b, off + q * 6 + 3, none⟩ = some (.int .i64 y.a) := hc 3 _ rfl
          have c4 : wr.cell? ⟨b, off + q * 6 + 4, none⟩ = some (.int .i64 y.b) := hc 4 _ rfl
          have c5 : wr.cell? ⟨b, off + q * 6 + 5, none⟩ = some (.int .i64 y.c) := hc 5 _ rfl
          have e0 : wr.cell? ⟨b', off' + q * 6, none⟩ = some (.string ⟨y.op.toArray⟩) := by simpa [exR] using hc' 0 _ rfl
          have e1 : wr.cell? ⟨b', off' + q * 6 + 1, none⟩ = some (.string ⟨y.name.toArray⟩) := hc' 1 _ rfl
          have e2 : wr.cell? ⟨b', off' + q * 6 + 2, none⟩ = some (.int .i64 y.value) := hc' 2 _ rfl
          have e3 : wr.cell? ⟨b', off' + q * 6 + 3, none⟩ = some (.int .i64 y.a) := hc' 3 _ rfl
          have e4 : wr.cell? ⟨b', off' + q * 6 + 4, none⟩ = some (.int .i64 y.b) := hc' 4 _ rfl
          have e5 : wr.cell? ⟨b', off' + q * 6 + 5, none⟩ = some (.int .i64 y.c) := hc' 5 _ rfl
          have hsb := World.block_lt_of_cell? wr _ c0
          have hsb' := World.block_lt_of_cell? wr _ e0
          clear hc hc' T2 U2 hy
          go_wp2_with fail
          go_big_quiet (fail)
          go_wp2_with fail
          exact ⟨⟨q + 1, by omega, rfl, Lib.hid (below_drewT I.out _)⟩, by simp [intOf]; omega⟩
        · obtain rfl : q = m := by omega
          have BF := Lib.hid (below_step B1.out I.out)
          clear T2 U2 hlt
          go_wp2_with fail
          go_ret
          exact ⟨rfl, BF.out⟩
end Go.Proofs.YtpakepapjnakgaaDoor

set_option linter.unusedVariables false
namespace Go.Proofs.YtpakepapjnakgaaDoor
open Go.RowKit
open PTree (R Ex Tr Rl Row)
open PCheck (Xp)

theorem keep22 {w w' : World} {p0 p1 p2 p3 : Addr} {a b c d : Value} (hb : Below w.heap.size w w') (h : (w.cell? p0 = some a ∧ w.cell? p1 = some b) ∧ w.cell? p2 = some c ∧ w.cell? p3 = some d) :
    (w'.cell? p0 = some a ∧ w'.cell? p1 = some b) ∧ w'.cell? p2 = some c ∧ w'.cell? p3 = some d :=
  ⟨⟨(hb.cell (World.block_lt_of_cell? w _ h.1.1)).trans h.1.1, (hb.cell (World.block_lt_of_cell? w _ h.1.2)).trans h.1.2⟩, (hb.cell (World.block_lt_of_cell? w _ h.2.1)).trans h.2.1, (hb.cell (World.block_lt_of_cell? w _ h.2.2)).trans h.2.2⟩
theorem rowsOf_len0 : ∀ (o : Nat) (rs : List Rl), (PTree.rowsOf o rs).length = rs.length
  | _, [] => rfl
  | o, r :: rs => by simp [PTree.rowsOf, rowsOf_len0 (o + r.tree.size) rs]
/-- What a text is read to: rows, and their numbers. -/
def RdAns (rs : List Rl) (rl sz : Nat) (w : World) (e : Ending) (w' : World) : Prop := ∃ A ca B cb, e = .returned (.tuple #[.agg #[.slice A rl ca, .slice B sz cb], .int .i64 0, .int .i64 0]) ∧ SlX rowR w' A rl (PTree.rowsOf 0 rs) ∧ SlX exR w' B sz (PTree.exprsOf 0 rs) ∧ Below w.heap.size w w'
theorem tparse_rows {s : ByteArray} {rs : List Rl} {t : List PLex.Tok} (h : PTree.parse s.data.toList = some (.ok t rs)) (hs : s.size ≤ 4000) (w : World) {rl sz : Nat} (hl : rs.length = rl) (hz : PTree.sizeOf rs = sz) :
    Calls Tryd.prog 9 #[.string s] w (RdAns rs rl sz w) := by
  subst hl; subst hz
  exact tparse_ok h hs w
/-- The answer of a statement. -/
def Yes (w : World) (e : Ending) (w' : World) : Prop := e = .returned (.bool true) ∧ Below w.heap.size w w'
theorem aw9_yes (w : World) (ht : Tab w) : Calls Tryd.prog 8 #[] w (Yes w) := aw9_any w ht
end Go.Proofs.YtpakepapjnakgaaDoor
