/-
  What the landed check answers: which expressions the last one is made of.
-/
import Derived.Test.YtkmehhhgdeiaeaaDoorCM
import Derived.Test.YtkmehhhgdeiaeaaDoorCheckPartsG
import Derived.Deep.OwnRows
namespace Go.Proofs.YtkmehhhgdeiaeaaDoor
open Go.RowKit
open PCheck (Xp madeF made parts)

theorem make_rowB (L : Nat) (h : L ≤ 1000) (W : World) :
    (Instr.makeSlice 57 (.int .i64 (L : Int)) (.int .i64 (L : Int))).run Tryd.prog W = .ok (.slice (some ⟨W.heap.size, 0, none⟩) L L) (W.alloc (.cells (madeCells #[.bool false] L) 4)) :=
  run_make_row' (P := Tryd.prog) 57 4 (.bool false) 1 Tryd.underlying57 (by kernel_rfl) rfl .i64 .i64 L (by omega) (by omega) W
/-- A row of flags in a block of its own. -/
def RwB (w : World) (H N : Nat) (l : List Bool) : Prop := l.length = N ∧ ∀ t, t < N → w.cell? ⟨H, t, none⟩ = some (.bool (l.getD t false)) ∧ w.frozen? ⟨H, t, none⟩ = false
theorem made_rwB (w : World) (L : Nat) : RwB (w.alloc (.cells (madeCells #[.bool false] L) 4)) w.heap.size L (List.replicate L false) := by
  have e : madeCells #[.bool false] L = (List.replicate L (Value.bool false)).toArray := by
    apply Array.ext'; simp [madeCells, Nat.mod_one, List.map_const']
  rw [e]
  have h := Box.new w 4 (List.replicate L (Value.bool false))
  refine ⟨List.length_replicate, fun t ht => ?_⟩
  have hv : (List.replicate L (Value.bool false))[t]? = some (.bool false) := by simp [ht]
  have h0 : (List.replicate L false).getD t false = false := by simp [List.getD, ht]
  rw [h0]
  exact ⟨h.c t hv, h.f t hv⟩
theorem RwB.on {w w' : World} {H N : Nat} {l : List Bool} (h : RwB w H N l) (hb : Below w.heap.size w w') : RwB w' H N l :=
  ⟨h.1, fun t ht => ⟨(hb.cell (World.block_lt_of_cell? w _ (h.2 t ht).1)).trans (h.2 t ht).1, (hb.frozen (p := ⟨H, t, none⟩) (World.block_lt_of_cell? w _ (h.2 t ht).1)).trans (h.2 t ht).2⟩⟩
theorem RwB.set {w : World} {H N : Nat} {l : List Bool} (h : RwB w H N l) {t : Nat} (ht : t < N) (z : Bool) : RwB (w.setCell ⟨H, t, none⟩ (.bool z)) H N (l.set t z) := by
  refine ⟨by rw [List.length_set]; exact h.1, fun s hs => ⟨?_, by rw [box_frozen_set]; exact (h.2 s hs).2⟩⟩
  by_cases e : s = t
  · subst e
    rw [World.cell?_setCell_same _ _ _ (h.2 s hs).1]
    simp [List.getD, h.1, hs]
  · rw [World.cell?_setCell_other _ _ _ _ (by intro c; simp only [Addr.mk.injEq] at c; omega), (h.2 s hs).1]
    simp only [List.getD, List.getElem?_set_ne (Ne.symm e)]
theorem PtI.far {w : World} {lo : Nat} {P : Option Addr} {l : List Int} (h : PtI w lo P l) {H : Nat} (hH : H < lo) (t : Nat) (v : Value) : PtI (w.setCell ⟨H, t, none⟩ v) lo P l := by
  rcases h with h | ⟨b, rfl, hb, h⟩
  · exact .inl h
  · exact .inr ⟨b, rfl, hb, fun j x e => by rw [World.cell?_setCell_far _ _ _ _ (by simp; omega)]; exact h j x e⟩
theorem ptI_at {w : World} {lo : Nat} {P : Option Addr} {l : List Int} (h : PtI w lo P l) {q : Nat} (hq : q < l.length) : ∃ b, P = some ⟨b, 0, none⟩ ∧ w.cell? ⟨b, q, none⟩ = some (.int .i64 l[q]) := by
  rcases h with h | ⟨b, rfl, _, h⟩
  · subst h; cases hq
  · exact ⟨b, rfl, h q _ (List.getElem?_eq_getElem hq)⟩
/-- What is answered. -/
def MadeAns (F : Option (List Bool)) (n : Nat) (w : World) (e : Ending) (w' : World) : Prop := Below w.heap.size w w' ∧ match F with
  | none => e = .returned (.tuple #[.slice none 0 0, .bool false])
  | some m => e = .returned (.tuple #[.slice (some ⟨w.heap.size, 0, none⟩) n n, .bool true]) ∧ RwB w' w.heap.size n m
theorem parts_few3 (x : Xp) : (parts x).length ≤ 3 := by unfold PCheck.parts; (repeat' split) <;> simp
set_option maxHeartbeats 6400000 in
set_option maxRecDepth 100000 in
theorem kmade_any {w : World} {A : Option Addr} {n c : Nat} {E : List Xp} (hE : SlX xpR w A n E) (hn : 1 ≤ n) (h1000 : n ≤ 1000) :
    Calls Tryd.prog 16 #[.slice A n c] w (MadeAns (made E (n - 1)) n w) := by
  obtain ⟨F, hF⟩ : ∃ F, made E (n - 1) = F := ⟨_, rfl⟩
  rw [hF]
  obtain ⟨Q, hQ⟩ : ∃ Q, MadeAns F n w = Q := ⟨_, rfl⟩
  rw [hQ]
  have hF' : madeF E n ((List.replicate n false).set (n - 1) true) = F := by
    rw [← hF]; unfold PCheck.made; rw [Nat.sub_add_cancel hn]
  have HF := Lib.hid hF'; have HQ := Lib.hid hQ; have HE := Lib.hid hE
  have hmk := fun W => make_rowB n h1000 W
  obtain ⟨N1, hN1⟩ : ∃ k, k = n - 1 := ⟨_, rfl⟩
  have gn : (n : Int) - 1 = (N1 : Int) := by omega
  have gn2 : (n : Int) ≤ 1000 := by omega
  have hN1n : N1 < n := by omega
  rw [← hN1] at HF
  obtain ⟨H, hH⟩ : ∃ H, w.heap.size = H := ⟨_, rfl⟩
  have HH := Lib.hid hH
  clear hF hF' hQ hE hN1
  go_enter Tryd.func16, Tryd.ntmps16
  go_upto_region 2 with fail
  obtain ⟨w1, hw1, UR, b1, hs1⟩ : ∃ w1, w.alloc (.cells (madeCells #[.bool false] n) 4) = w1 ∧ RwB w1 w.heap.size n (List.replicate n false) ∧ Below w.heap.size w w1 ∧ w.heap.size < w1.heap.size := ⟨_, rfl, made_rwB w n, (Below.refl _ _).alloc (Nat.le_refl _) _, by simp⟩
  rw [hw1]
  rw [hH] at UR b1 hs1
  (try rw [hH])
  obtain ⟨u1, f1⟩ := UR.2 N1 hN1n
  have UR2 := Lib.hid (UR.set hN1n true)
  have B2 := Lib.hid (b1.setCell (p := ⟨H, N1, none⟩) (Nat.le_refl H) (.bool true))
  have hs2 : Hid (H < (w1.setCell ⟨H, N1, none⟩ (.bool true)).heap.size) := Lib.hid (by simp only [World.size_setCell]; exact hs1)
  clear hw1 UR b1 hH hmk
  go_upto_region 4 with fail
  clear u1 f1
  generalize w1.setCell ⟨H, N1, none⟩ (.bool true) = w2 at *
  go_wp2_with fail
  go_loopw [5] (fun i wr => ∃ (k : Nat) (z : Int) (m : List Bool), k ≤ n ∧ z = (k : Int) - 1 ∧ i = .int .i64 z ∧ Hid (RwB wr H n m) ∧ Hid (madeF E k m = F) ∧ Hid (Below H w wr) ∧ Hid (H < wr.heap.size)) (fun i _ => (intOf i + 1).toNat)
  case atStart => exact ⟨n, (N1 : Int), _, Nat.le_refl _, by omega, rfl, UR2, HF, B2, hs2⟩
  case round =>
    clear UR2 B2 hs2 HF
    obtain ⟨k, z, m, hk, hz, rfl, I1, I2, I3, I4⟩ := hrel
    cases k with
    | zero =>
      have gz : z < 0 := by omega
      have FIN : Hid (some m = F) := Lib.hid I2.out
      clear I2 hz
      go_wp2_with fail
      rw [← HQ.out, ← FIN.out]
      exact ⟨by rw [HH.out]; exact I3.out, by rw [HH.out]; exact ⟨rfl, I1.out⟩⟩
    | succ k =>
      obtain rfl : z = (k : Int) := by omega
      have hkn : k < n := by omega
      have gk : (k : Int) < (n : Int) := by omega
      have gk0 : ¬ (k : Int) < 0 := by omega
      obtain ⟨u1, -⟩ := I1.out.2 k hkn
      have hkE : k < E.length := by rw [HE.out.1]; exact hkn
      have hx := List.getElem?_eq_getElem hkE
      have hlm : m.length = n := I1.out.1
      have hus := I4.out
      cases hb : m.getD k false with
      | false =>
        have FIN : Hid (madeF E k m = F) := Lib.hid (by
          have h := I2.out
          unfold madeF at h
          rw [hx] at h
          simp only [] at h
          rw [if_neg (by intro e; rw [List.getD, e] at hb; cases hb)] at h
          exact h)
        rw [hb] at u1
        clear hb hx hkE hlm I2 hz
        go_wp2_with fail
        exact ⟨⟨k, (k : Int) - 1, m, by omega, rfl, rfl, I1, FIN, I3, I4⟩, by simp [intOf] <;> omega⟩
      | true =>
        rw [hb] at u1
        have hmk : m[k]? = some true := by
          have : m[k]? = some (m[k]'(by omega)) := List.getElem?_eq_getElem (by omega)
          rw [this]
          simp only [List.getD, this] at hb
          exact congrArg some hb
        obtain ⟨x, hxx⟩ : ∃ x, E[k] = x := ⟨_, rfl⟩
        rw [hxx] at hx
        have FM : Hid ((match PCheck.mark k (parts x) m with | none => none | some m' => madeF E k m') = F) := Lib.hid (by
          have h := I2.out
          unfold madeF at h
          rw [hx] at h
          simp only [] at h
          rw [if_pos hmk] at h
          exact h)
        have IE := HE.out.on (by rw [HH.out]; exact I3.out)
        obtain ⟨b, off, rfl, hc⟩ := IE.at hkn
        have hd := hc k hkE
        rw [hxx] at hd
        have c0 : wr.cell? ⟨b, off + k * 6, none⟩ = some (.string ⟨x.op.toArray⟩) := by simpa [xpR] using hd 0 _ rfl
        have c1 : wr.cell? ⟨b, off + k * 6 + 1, none⟩ = some (.string ⟨x.name.toArray⟩) := hd 1 _ rfl
        have c2 : wr.cell? ⟨b, off + k * 6 + 2, none⟩ = some (.int .i64 x.value) := hd 2 _ rfl
        have c3 : wr.cell? ⟨b, off + k * 6 + 3, none⟩ = some (.int .i64 x.a) := hd 3 _ rfl
        have c4 : wr.cell? ⟨b, off + k * 6 + 4, none⟩ = some (.int .i64 x.b) := hd 4 _ rfl
        have c5 : wr.cell? ⟨b, off + k * 6 + 5, none⟩ = some (.int .i64 x.c) := hd 5 _ rfl
        have hsb := World.block_lt_of_cell? wr _ c0
        have KP := Lib.hid (kparts_any x wr)
        unfold xpC at KP
        have hpl := parts_few3 x
        obtain ⟨l, hl⟩ : ∃ l, parts x = l := ⟨_, rfl⟩
        rw [hl] at FM KP hpl
        have gl : (l.length : Int) ≤ 3 := by omega
        clear hc hd IE hb hx hxx hmk hkE hlm I2 hz hl
        go_wp2_with fail
        refine (KP.out).mono ?_
        rintro _ w4 ⟨P, pc, rfl, hp, b4⟩
        have P4 : Hid (PtI w4 (H + 1) P l) := Lib.hid (by
          rcases hp with hp | ⟨g, h1, h2, h3⟩
          · exact .inl hp
          · exact .inr ⟨g, h1, Nat.le_trans hus h2, h3⟩)
        have R4 := Lib.hid (I1.out.on b4)
        have B4 := Lib.hid (I3.out.trans (b4.mono (Nat.le_of_lt hus)))
        have S4 : Hid (H < w4.heap.size) := Lib.hid (Nat.lt_of_lt_of_le hus b4.size)
        clear hp b4 I1 I3 I4 KP c0 c1 c2 c3 c4 c5 hsb u1 hus
        go_wp2_with fail
        go_loopw [34] (fun q wx => ∃ (t : Nat) (m' : List Bool), t ≤ l.length ∧ q = .int .i64 t ∧ Hid (RwB wx H n m') ∧ Hid ((match PCheck.mark k (l.drop t) m' with | none => none | some m'' => madeF E k m'') = F) ∧ Hid (PtI wx (H + 1) P l) ∧ Hid (Below H w wx) ∧ Hid (H < wx.heap.size)) (fun q _ => l.length - (intOf q).toNat)
        case atStart => exact ⟨0, m, Nat.zero_le _, rfl, R4, (show Hid _ from by rw [List.drop_zero]; exact FM.out), P4, B4, S4⟩
        case round =>
          clear R4 FM P4 B4 S4
          obtain ⟨t, m', ht, rfl, I1, I2, I3, I4, I5⟩ := hrel
          by_cases htl : t < l.length
          · obtain ⟨pb, rfl, cp⟩ := ptI_at I3.out htl
            obtain ⟨p, hp⟩ : ∃ p, l[t] = p := ⟨_, rfl⟩
            have hdr : l.drop t = p :: l.drop (t + 1) := by rw [List.drop_eq_getElem_cons htl, hp]
            rw [hp] at cp
            have hsp := World.block_lt_of_cell? wr _ cp
            by_cases hbad : p < 0 ∨ (k : Int) ≤ p
            · have FIN : Hid (none = F) := Lib.hid (by
                have h := I2.out
                rw [hdr] at h
                unfold PCheck.mark at h
                rw [if_pos hbad] at h
                exact h)
              clear hdr hp I2
              rcases hbad with h1 | h1
              · go_wp2_with fail
                rw [← HQ.out, ← FIN.out]
                exact ⟨by rw [HH.out]; exact I4.out, rfl⟩
              · have h2 : ¬ p < 0 := by omega
                go_wp2_with fail
                rw [← HQ.out, ← FIN.out]
                exact ⟨by rw [HH.out]; exact I4.out, rfl⟩
            · obtain ⟨pn, rfl⟩ : ∃ pn : Nat, p = pn := ⟨p.toNat, by omega⟩
              have hpn : pn < k := by omega
              have hpn2 : pn < n := by omega
              have FIN : Hid ((match PCheck.mark k (l.drop (t + 1)) (m'.set pn true) with | none => none | some m'' => madeF E k m'') = F) := Lib.hid (by
                have h := I2.out
                rw [hdr] at h
                unfold PCheck.mark at h
                rw [if_neg hbad, Int.toNat_natCast] at h
                exact h)
              obtain ⟨v1, v2⟩ := I1.out.2 pn hpn2
              have R5 := Lib.hid (I1.out.set hpn2 true)
              have P5 := Lib.hid (I3.out.far (Nat.lt_succ_self H) pn (.bool true))
              have B5 := Lib.hid (I4.out.setCell (p := ⟨H, pn, none⟩) (Nat.le_refl H) (.bool true))
              have S5 : Hid (H < (wr.setCell ⟨H, pn, none⟩ (.bool true)).heap.size) := Lib.hid (by simp only [World.size_setCell]; exact I5.out)
              have hus := I5.out
              have g1 : ¬ (pn : Int) < 0 := by omega
              have g2 : ¬ (k : Int) ≤ (pn : Int) := by omega
              have g3 : (pn : Int) < (n : Int) := by omega
              clear hdr hp I1 I2 I3 I4 I5 hbad
              go_wp2_with fail
              exact ⟨⟨t + 1, m'.set pn true, by omega, rfl, R5, FIN, P5, B5, S5⟩, by simp [intOf]; omega⟩
          · obtain rfl : t = l.length := by omega
            have FIN : Hid (madeF E k m' = F) := Lib.hid (by
              have h := I2.out
              rw [List.drop_length] at h
              exact h)
            clear I2 I3 ht htl
            go_wp2_with fail
            exact ⟨⟨k, (k : Int) - 1, m', by omega, rfl, rfl, I1, FIN, I4, I5⟩, by simp [intOf] <;> omega⟩
end Go.Proofs.YtkmehhhgdeiaeaaDoor
