/-
  What the landed check answers: which expressions the last one is made of.
  A map of the call's own from texts to ints: what it holds, by a function; a look-up, and what is put.
  What the landed check answers: the kinds of the names, the first of each.
  What the landed check answers: the kind of one expression, by the kinds of its parts and of the names.
  What the landed check answers: Kind, over any program and bindings.
-/
import Derived.Test.YtdkcdgjpcojdfaaGreatDoorMC
import Derived.Test.YtdkcdgjpcojdfaaGreatDoorCP
import Derived.Deep.OwnRows
import Derived.Test.YtdkcdgjpcojdfaaGreatDoorBase
import Derived.Maps.Own
import Derived.Maps.Views
import Derived.StringKeys
import Derived.Deep.RegionHeld3

namespace Go.Proofs.YtdkcdgjpcojdfaaGreatDoor
open Go.RowKit
open PCheck (Xp madeF made parts)

theorem make_rowB (L : Nat) (h : L ≤ 1000) (W : World) :
    (Instr.makeSlice 56 (.int .i64 (L : Int)) (.int .i64 (L : Int))).run Tryz.prog W = .ok (.slice (some ⟨W.heap.size, 0, none⟩) L L) (W.alloc (.cells (madeCells #[.bool false] L) 4)) :=
  run_make_row' (P := Tryz.prog) 56 4 (.bool false) 1 Tryz.underlying56 (by kernel_rfl) rfl .i64 .i64 L (by omega) (by omega) W
def RwB (w : World) (H N : Nat) (l : List Bool) : Prop := l.length = N ∧ ∀ t, t < N → w.cell? ⟨H, t, none⟩ = some (.bool (l.getD t false)) ∧ w.frozen? ⟨H, t, none⟩ = false
theorem made_rwB (w : World) (L : Nat) : RwB (w.alloc (.cells (madeCells #[.bool false] L) 4)) w.heap.size L (List.replicate L false) := by
  have e : madeCells #[.bool false] L = (List.replicate L (Value.bool false)).toArray := by
    apply Array.ext'; simp [madeCells, Nat.mod_one, List.map_const']
  rw [e]
  have h := Box.new w 4 (List.replicate L (Value.bool false))
  refine ⟨List.length_replicate, fun t ht => ?_⟩
  have hv : (List.replicate L (Value.bool false))[t]? = some (.bool false) := by simp [ht]
  have h0 : (List.replicate L false).getD t false = false := by simp [List.getD, ht]
  rw [h0]
  exact ⟨h.c t hv, h.f t hv⟩
theorem RwB.on {w w' : World} {H N : Nat} {l : List Bool} (h : RwB w H N l) (hb : Below w.heap.size w w') : RwB w' H N l :=
  ⟨h.1, fun t ht => ⟨(hb.cell (World.block_lt_of_cell? w _ (h.2 t ht).1)).trans (h.2 t ht).1, (hb.frozen (p := ⟨H, t, none⟩) (World.block_lt_of_cell? w _ (h.2 t ht).1)).trans (h.2 t ht).2⟩⟩
theorem RwB.set {w : World} {H N : Nat} {l : List Bool} (h : RwB w H N l) {t : Nat} (ht : t < N) (z : Bool) : RwB (w.setCell ⟨H, t, none⟩ (.bool z)) H N (l.set t z) := by
  refine ⟨by rw [List.length_set]; exact h.1, fun s hs => ⟨?_, by rw [box_frozen_set]; exact (h.2 s hs).2⟩⟩
  by_cases e : s = t
  · subst e
    rw [World.cell?_setCell_same _ _ _ (h.2 s hs).1]
    simp [List.getD, h.1, hs]
  · rw [World.cell?_setCell_other _ _ _ _ (by intro c; simp only [Addr.mk.injEq] at c; omega), (h.2 s hs).1]
    simp only [List.getD, List.getElem?_set_ne (Ne.symm e)]
theorem PtI.far {w : World} {lo : Nat} {P : Option Addr} {l : List Int} (h : PtI w lo P l) {H : Nat} (hH : H < lo) (t : Nat) (v : Value) : PtI (w.setCell ⟨H, t, none⟩ v) lo P l := by
  rcases h with h | ⟨b, rfl, hb, h⟩
  · exact .inl h
  · exact .inr ⟨b, rfl, hb, fun j x e => by rw [World.cell?_setCell_far _ _ _ _ (by simp; omega)]; exact h j x e⟩
theorem ptI_at {w : World} {lo : Nat} {P : Option Addr} {l : List Int} (h : PtI w lo P l) {q : Nat} (hq : q < l.length) : ∃ b, P = some ⟨b, 0, none⟩ ∧ w.cell? ⟨b, q, none⟩ = some (.int .i64 l[q]) := by
  rcases h with h | ⟨b, rfl, _, h⟩
  · subst h; cases hq
  · exact ⟨b, rfl, h q _ (List.getElem?_eq_getElem hq)⟩
def MadeAns (F : Option (List Bool)) (n : Nat) (w : World) (e : Ending) (w' : World) : Prop := Below w.heap.size w w' ∧ match F with
  | none => e = .returned (.tuple #[.slice none 0 0, .bool false])
  | some m => e = .returned (.tuple #[.slice (some ⟨w.heap.size, 0, none⟩) n n, .bool true]) ∧ RwB w' w.heap.size n m
theorem parts_few3 (x : Xp) : (parts x).length ≤ 3 := by unfold PCheck.parts; (repeat' split) <;> simp
set_option maxHeartbeats 6400000 in
set_option maxRecDepth 100000 in
theorem kmade_any {w : World} {A : Option Addr} {n c : Nat} {E : List Xp} (hE : SlX xpR w A n E) (hn : 1 ≤ n) (h1000 : n ≤ 1000) :
    Calls Tryz.prog 62 #[.slice A n c] w (MadeAns (made E (n - 1)) n w) := by
  obtain ⟨F, hF⟩ : ∃ F, made E (n - 1) = F := ⟨_, rfl⟩
  rw [hF]
  obtain ⟨Q, hQ⟩ : ∃ Q, MadeAns F n w = Q := ⟨_, rfl⟩
  rw [hQ]
  have hF' : madeF E n ((List.replicate n false).set (n - 1) true) = F := by
    rw [← hF]; unfold PCheck.made; rw [Nat.sub_add_cancel hn]
  have HF := Lib.hid hF'; have HQ := Lib.hid hQ; have HE := Lib.hid hE
  have hmk := fun W => make_rowB n h1000 W
  obtain ⟨N1, hN1⟩ : ∃ k, k = n - 1 := ⟨_, rfl⟩
  have gn : (n : Int) - 1 = (N1 : Int) := by omega
  have gn2 : (n : Int) ≤ 1000 := by omega
  have hN1n : N1 < n := by omega
  rw [← hN1] at HF
  obtain ⟨H, hH⟩ : ∃ H, w.heap.size = H := ⟨_, rfl⟩
  have HH := Lib.hid hH
  clear hF hF' hQ hE hN1
  go_enter Tryz.func62, Tryz.ntmps62
  go_upto_region 2 with fail
  obtain ⟨w1, hw1, UR, b1, hs1⟩ : ∃ w1, w.alloc (.cells (madeCells #[.bool false] n) 4) = w1 ∧ RwB w1 w.heap.size n (List.replicate n false) ∧ Below w.heap.size w w1 ∧ w.heap.size < w1.heap.size := ⟨_, rfl, made_rwB w n, (Below.refl _ _).alloc (Nat.le_refl _) _, by simp⟩
  rw [hw1]
  rw [hH] at UR b1 hs1
  (try rw [hH])
  obtain ⟨u1, f1⟩ := UR.2 N1 hN1n
  have UR2 := Lib.hid (UR.set hN1n true)
  have B2 := Lib.hid (b1.setCell (p := ⟨H, N1, none⟩) (Nat.le_refl H) (.bool true))
  have hs2 : Hid (H < (w1.setCell ⟨H, N1, none⟩ (.bool true)).heap.size) := Lib.hid (by simp only [World.size_setCell]; exact hs1)
  clear hw1 UR b1 hH hmk
  go_upto_region 4 with fail
  clear u1 f1
  generalize w1.setCell ⟨H, N1, none⟩ (.bool true) = w2 at *
  go_wp2_with fail
  go_loopw [5] (fun i wr => ∃ (k : Nat) (z : Int) (m : List Bool), k ≤ n ∧ z = (k : Int) - 1 ∧ i = .int .i64 z ∧ Hid (RwB wr H n m) ∧ Hid (madeF E k m = F) ∧ Hid (Below H w wr) ∧ Hid (H < wr.heap.size)) (fun i _ => (intOf i + 1).toNat)
  case atStart => exact ⟨n, (N1 : Int), _, Nat.le_refl _, by omega, rfl, UR2, HF, B2, hs2⟩
  case round =>
    clear UR2 B2 hs2 HF
    obtain ⟨k, z, m, hk, hz, rfl, I1, I2, I3, I4⟩ := hrel
    cases k with
    | zero =>
      have gz : z < 0 := by omega
      have FIN : Hid (some m = F) := Lib.hid I2.out
      clear I2 hz
      go_wp2_with fail
      rw [← HQ.out, ← FIN.out]
      exact ⟨by rw [HH.out]; exact I3.out, by rw [HH.out]; exact ⟨rfl, I1.out⟩⟩
    | succ k =>
      obtain rfl : z = (k : Int) := by omega
      have hkn : k < n := by omega
      have gk : (k : Int) < (n : Int) := by omega
      have gk0 : ¬ (k : Int) < 0 := by omega
      obtain ⟨u1, -⟩ := I1.out.2 k hkn
      have hkE : k < E.length := by rw [HE.out.1]; exact hkn
      have hx := List.getElem?_eq_getElem hkE
      have hlm : m.length = n := I1.out.1
      have hus := I4.out
      cases hb : m.getD k false with
      | false =>
        have FIN : Hid (madeF E k m = F) := Lib.hid (by
          have h := I2.out
          unfold madeF at h
          rw [hx] at h
          simp only [] at h
          rw [if_neg (by intro e; rw [List.getD, e] at hb; cases hb)] at h
          exact h)
        rw [hb] at u1
        clear hb hx hkE hlm I2 hz
        go_wp2_with fail
        exact ⟨⟨k, (k : Int) - 1, m, by omega, rfl, rfl, I1, FIN, I3, I4⟩, by simp [intOf] <;> omega⟩
      | true =>
        rw [hb] at u1
        have hmk : m[k]? = some true := by
          have : m[k]? = some (m[k]'(by omega)) := List.getElem?_eq_getElem (by omega)
          rw [this]
          simp only [List.getD, this] at hb
          exact congrArg some hb
        obtain ⟨x, hxx⟩ : ∃ x, E[k] = x := ⟨_, rfl⟩
        rw [hxx] at hx
        have FM : Hid ((match PCheck.mark k (parts x) m with | none => none | some m' => madeF E k m') = F) := Lib.hid (by
          have h := I2.out
          unfold madeF at h
          rw [hx] at h
          simp only [] at h
          rw [if_pos hmk] at h
          exact h)
        have IE := HE.out.on (by rw [HH.out]; exact I3.out)
        obtain ⟨b, off, rfl, hc⟩ := IE.at hkn
        have hd := hc k hkE
        rw [hxx] at hd
        have c0 : wr.cell? ⟨b, off + k * 6, none⟩ = some (.string ⟨x.op.toArray⟩) := by simpa [xpR] using hd 0 _ rfl
        have c1 : wr.cell? ⟨b, off + k * 6 + 1, none⟩ = some (.string ⟨x.name.toArray⟩) := hd 1 _ rfl
        have c2 : wr.cell? ⟨b, off + k * 6 + 2, none⟩ = some (.int .i64 x.value) := hd 2 _ rfl
        have c3 : wr.cell? ⟨b, off + k * 6 + 3, none⟩ = some (.int .i64 x.a) := hd 3 _ rfl
        have c4 : wr.cell? ⟨b, off + k * 6 + 4, none⟩ = some (.int .i64 x.b) := hd 4 _ rfl
        have c5 : wr.cell? ⟨b, off + k * 6 + 5, none⟩ = some (.int .i64 x.c) := hd 5 _ rfl
        have hsb := World.block_lt_of_cell? wr _ c0
        have KP := Lib.hid (kparts_any x wr)
        unfold xpC at KP
        have hpl := parts_few3 x
        obtain ⟨l, hl⟩ : ∃ l, parts x = l := ⟨_, rfl⟩
        rw [hl] at FM KP hpl
        have gl : (l.length : Int) ≤ 3 := by omega
        clear hc hd IE hb hx hxx hmk hkE hlm I2 hz hl
        go_wp2_with fail
        refine (KP.out).mono ?_
        rintro _ w4 ⟨P, pc, rfl, hp, b4⟩
        have P4 : Hid (PtI w4 (H + 1) P l) := Lib.hid (by
          rcases hp with hp | ⟨g, h1, h2, h3⟩
          · exact .inl hp
          · exact .inr ⟨g, h1, Nat.le_trans hus h2, h3⟩)
        have R4 := Lib.hid (I1.out.on b4)
        have B4 := Lib.hid (I3.out.trans (b4.mono (Nat.le_of_lt hus)))
        have S4 : Hid (H < w4.heap.size) := Lib.hid (Nat.lt_of_lt_of_le hus b4.size)
        clear hp b4 I1 I3 I4 KP c0 c1 c2 c3 c4 c5 hsb u1 hus
        go_wp2_with fail
        go_loopw [34] (fun q wx => ∃ (t : Nat) (m' : List Bool), t ≤ l.length ∧ q = .int .i64 t ∧ Hid (RwB wx H n m') ∧ Hid ((match PCheck.mark k (l.drop t) m' with | none => none | some m'' => madeF E k m'') = F) ∧ Hid (PtI wx (H + 1) P l) ∧ Hid (Below H w wx) ∧ Hid (H < wx.heap.size)) (fun q _ => l.length - (intOf q).toNat)
        case atStart => exact ⟨0, m, Nat.zero_le _, rfl, R4, (show Hid _ from by rw [List.drop_zero]; exact FM.out), P4, B4, S4⟩
        case round =>
          clear R4 FM P4 B4 S4
          obtain ⟨t, m', ht, rfl, I1, I2, I3, I4, I5⟩ := hrel
          by_cases htl : t < l.length
          · obtain ⟨pb, rfl, cp⟩ := ptI_at I3.out htl
            obtain ⟨p, hp⟩ : ∃ p, l[t] = p := ⟨_, rfl⟩
            have hdr : l.drop t = p :: l.drop (t + 1) := by rw [List.drop_eq_getElem_cons htl, hp]
            rw [hp] at cp
            have hsp := World.block_lt_of_cell? wr _ cp
            by_cases hbad : p < 0 ∨ (k : Int) ≤ p
            · have FIN : Hid (none = F) := Lib.hid (by
                have h := I2.out
                rw [hdr] at h
                unfold PCheck.mark at h
                rw [if_pos hbad] at h
                exact h)
              clear hdr hp I2
              rcases hbad with h1 | h1
              · go_wp2_with fail
                rw [← HQ.out, ← FIN.out]
                exact ⟨by rw [HH.out]; exact I4.out, rfl⟩
              · have h2 : ¬ p < 0 := by omega
                go_wp2_with fail
                rw [← HQ.out, ← FIN.out]
                exact ⟨by rw [HH.out]; exact I4.out, rfl⟩
            · obtain ⟨pn, rfl⟩ : ∃ pn : Nat, p = pn := ⟨p.toNat, by omega⟩
              have hpn : pn < k := by omega
              have hpn2 : pn < n := by omega
              have FIN : Hid ((match PCheck.mark k (l.drop (t + 1)) (m'.set pn true) with | none => none | some m'' => madeF E k m'') = F) := Lib.hid (by
                have h := I2.out
                rw [hdr] at h
                unfold PCheck.mark at h
                rw [if_neg hbad, Int.toNat_natCast] at h
                exact h)
              obtain ⟨v1, v2⟩ := I1.out.2 pn hpn2
              have R5 := Lib.hid (I1.out.set hpn2 true)
              have P5 := Lib.hid (I3.out.far (Nat.lt_succ_self H) pn (.bool true))
              have B5 := Lib.hid (I4.out.setCell (p := ⟨H, pn, none⟩) (Nat.le_refl H) (.bool true))
              have S5 : Hid (H < (wr.setCell ⟨H, pn, none⟩ (.bool true)).heap.size) := Lib.hid (by simp only [World.size_setCell]; exact I5.out)
              have hus := I5.out
              have g1 : ¬ (pn : Int) < 0 := by omega
              have g2 : ¬ (k : Int) ≤ (pn : Int) := by omega
              have g3 : (pn : Int) < (n : Int) := by omega
              clear hdr hp I1 I2 I3 I4 I5 hbad
              go_wp2_with fail
              exact ⟨⟨t + 1, m'.set pn true, by omega, rfl, R5, FIN, P5, B5, S5⟩, by simp [intOf]; omega⟩
          · obtain rfl : t = l.length := by omega
            have FIN : Hid (madeF E k m' = F) := Lib.hid (by
              have h := I2.out
              rw [List.drop_length] at h
              exact h)
            clear I2 I3 ht htl
            go_wp2_with fail
            exact ⟨⟨k, (k : Int) - 1, m', by omega, rfl, rfl, I1, FIN, I4, I5⟩, by simp [intOf] <;> omega⟩
end Go.Proofs.YtdkcdgjpcojdfaaGreatDoor

namespace Go.Proofs.YtdkcdgjpcojdfaaGreatDoor
open Go.RowKit
open Go.Maps (IsMap)
open Go.WideMaps (keyOf_string_mk)

abbrev mapK (w : World) (b n : Nat) (D : DataW Unit) : Prop := w.ownsMap Tryz.prog 9 (plainElem Tryz.prog 3) b n D
def MapOf (w : World) (b n : Nat) (f : List UInt8 → Option Int) : Prop := ∃ D : DataW Unit, mapK w b n D ∧ IsMap D ∧ ∀ s zd, D.atKey (.string s) zd = match f s with | none => zd | some z => .lit (.int .i64 z)
theorem zero_int (w : World) : (zeroValue 3).run Tryz.prog w = .ok (.int .i64 0) w := by kernel_rfl
theorem str_keyed : Go.Maps.Keyed Tryz.prog 9 := Go.Maps.string_keyed (by kernel_rfl)
theorem mapOf_new (w : World) : MapOf (w.alloc (.map #[] 0)) w.heap.size 0 (fun _ => none) := ⟨.map [], World.ownsMap_made w _ _ _, ⟨_, rfl⟩, fun _ _ => rfl⟩
theorem MapOf.lt {w : World} {b n : Nat} {f : List UInt8 → Option Int} (h : MapOf w b n f) : b < w.heap.size := by obtain ⟨D, h, _⟩ := h; exact h.lt
theorem MapOf.on {w w' : World} {b n : Nat} {f : List UInt8 → Option Int} (h : MapOf w b n f) (hb : Below w.heap.size w w') : MapOf w' b n f := by
  have hl := h.lt
  obtain ⟨D, ⟨es, clock, h1, h2⟩, h3⟩ := h
  exact ⟨D, ⟨es, clock, (hb.block b hl).trans h1, h2⟩, h3⟩
theorem mapOf_look {w : World} {b n : Nat} {f : List UInt8 → Option Int} (h : MapOf w b n f) (s : ByteArray) (hs : s.size ≤ maxLen) :
    (Instr.lookup 89 (.map (some b)) (.string s) true).run Tryz.prog w = .ok (match f s.data.toList with | none => .tuple #[.int .i64 0, .bool false] | some z => .tuple #[.int .i64 z, .bool true]) w := by
  obtain ⟨D, ⟨es, clock, hb, F, _, rfl⟩, _, hf⟩ := h
  have hkey := keyOf_string_mk (P := Tryz.prog) (k := 9) (by kernel_rfl) hs
  have hat := hf s.data.toList
  rcases Go.Maps.fit_look true str_keyed (t := 89) (e := 3) (z := .int .i64 0) (by kernel_rfl) (zero_int _) hb F hkey with ⟨hrun, _, h1⟩ | ⟨e0, y, _, _, hrun, hR, h1, _⟩
  · rw [hrun]
    cases hfs : f s.data.toList with
    | none => rfl
    | some z =>
      have h2 := hat (.lit (.int .i64 (z + 1)))
      rw [h1, hfs] at h2
      simp only [DataW.lit.injEq, Lit.int.injEq] at h2
      omega
  · rw [hrun]
    obtain ⟨a, e1, e2, _⟩ := plainElem_int_inv (P := Tryz.prog) (e := 3) (q := .i64) (by kernel_rfl) hR
    rw [e1]
    have h3 : y.1 = .lit (.int .i64 a) := by rw [e2]
    cases hfs : f s.data.toList with
    | none =>
      have h2 := hat (.lit (.int .i64 (a + 1)))
      rw [h1, hfs, h3] at h2
      simp only [DataW.lit.injEq, Lit.int.injEq] at h2
      omega
    | some z =>
      have h2 := hat (.lit (.int .i64 0))
      rw [h1, hfs, h3] at h2
      simp only [DataW.lit.injEq, Lit.int.injEq] at h2
      rw [h2.2]; rfl
theorem mapOf_hit {w : World} {b n : Nat} {f : List UInt8 → Option Int} (h : MapOf w b n f) (s : List UInt8) (hs : s.length ≤ maxLen) {z : Int} (hz : f s = some z) :
    (Instr.lookup 89 (.map (some b)) (.string ⟨s.toArray⟩) true).run Tryz.prog w = .ok (.tuple #[.int .i64 z, .bool true]) w := by
  have e : (⟨s.toArray⟩ : ByteArray).data.toList = s := rfl
  have h := mapOf_look h ⟨s.toArray⟩ (by simpa [ByteArray.size] using hs)
  rw [e, hz] at h
  exact h
theorem mapOf_miss {w : World} {b n : Nat} {f : List UInt8 → Option Int} (h : MapOf w b n f) (s : List UInt8) (hs : s.length ≤ maxLen) (hz : f s = none) :
    (Instr.lookup 89 (.map (some b)) (.string ⟨s.toArray⟩) true).run Tryz.prog w = .ok (.tuple #[.int .i64 0, .bool false]) w := by
  have e : (⟨s.toArray⟩ : ByteArray).data.toList = s := rfl
  have h := mapOf_look h ⟨s.toArray⟩ (by simpa [ByteArray.size] using hs)
  rw [e, hz] at h
  exact h
def putF (f : List UInt8 → Option Int) (s : List UInt8) (z : Int) : List UInt8 → Option Int := fun x => if x = s then some z else f x
theorem mapOf_put {w : World} {b n : Nat} {f : List UInt8 → Option Int} (h : MapOf w b n f) (hn : n < maxLen) (s : ByteArray) (hs : s.size ≤ maxLen) (z : Int) (hz : (Lit.int .i64 z).wf = true) :
    ∃ w', (Instr.mapUpdate 89 (.map (some b)) (.string s) (.int .i64 z)).run Tryz.prog w = .ok () w' ∧ MapOf w' b (n + 1) (putF f s.data.toList z) ∧ w.grownBy w' (some b) := by
  obtain ⟨D, hD, hm, hf⟩ := h
  have hkey := keyOf_string_mk (P := Tryz.prog) (k := 9) (by kernel_rfl) hs
  obtain ⟨w', hrun, hown, hg⟩ := hD.update str_keyed (t := 89) (e := 3) (by kernel_rfl) hn (val := .int .i64 z) (d := .lit (.int .i64 z)) (ps := []) hkey (plainElem_int (by kernel_rfl) hz)
  refine ⟨w', hrun, ⟨_, hown, ?_, fun x zd => ?_⟩, hg⟩
  · obtain ⟨es, rfl⟩ := hm
    exact ⟨_, DataW.put_eq ..⟩
  · unfold putF
    by_cases hx : x = s.data.toList
    · rw [hx, if_pos rfl, Go.Maps.atKey_put_same hm (by trivial)]
    · rw [if_neg hx, Go.Maps.atKey_put_other (fun e => hx (by simpa using e)), hf]
end Go.Proofs.YtdkcdgjpcojdfaaGreatDoor

namespace Go.Proofs.YtdkcdgjpcojdfaaGreatDoor
open Go.RowKit
open PCheck (Bd bound)

theorem bound_snoc (l : List Bd) (b : Bd) (s : List UInt8) : bound (l ++ [b]) s = match bound l s with | some k => some k | none => if b.name = s then some (PCheck.oneOf b.kind [1, 2, 3, 4]) else none := by
  induction l with
  | nil => rfl
  | cons c l ih =>
    have e1 : bound (c :: l ++ [b]) s = if c.name = s then some (PCheck.oneOf c.kind [1, 2, 3, 4]) else bound (l ++ [b]) s := rfl
    have e2 : bound (c :: l) s = if c.name = s then some (PCheck.oneOf c.kind [1, 2, 3, 4]) else bound l s := rfl
    rw [e1, e2]
    by_cases h : c.name = s
    · rw [if_pos h, if_pos h]
    · rw [if_neg h, if_neg h]; exact ih
theorem bound_old {l : List Bd} {b : Bd} {k : Int} (h : bound l b.name = some k) : bound (l ++ [b]) = bound l := by
  funext s
  rw [bound_snoc]
  cases hs : bound l s with
  | some k => rfl
  | none =>
    by_cases e : b.name = s
    · rw [← e, h] at hs; cases hs
    · simp [e]
theorem bound_fresh {l : List Bd} {b : Bd} (h : bound l b.name = none) : bound (l ++ [b]) = putF (bound l) b.name (PCheck.oneOf b.kind [1, 2, 3, 4]) := by
  funext s
  rw [bound_snoc]
  unfold putF
  by_cases e : s = b.name
  · subst e; rw [h]
  · rw [if_neg e]
    cases hs : bound l s with
    | some k => rfl
    | none => simp [Ne.symm e]
theorem oneOf_wf (k : Int) : (Lit.int .i64 (PCheck.oneOf k [1, 2, 3, 4])).wf = true := by
  unfold PCheck.oneOf
  by_cases h : k ∈ [1, 2, 3, 4]
  · rw [if_pos h]
    simp only [List.mem_cons, List.not_mem_nil, or_false] at h
    rcases h with rfl | rfl | rfl | rfl <;> decide
  · rw [if_neg h]; decide
theorem four_cells (w : World) : ∀ j, j < 4 → (w.alloc (.cells #[.int .i64 1, .int .i64 2, .int .i64 3, .int .i64 4] 3)).drew.cell? ⟨w.heap.size, 0 + j, none⟩ = some (.int .i64 (([1, 2, 3, 4] : List Int).getD j 0)) := fun j hj => by
  have h := Box.new w 3 (([1, 2, 3, 4] : List Int).map fun z => Value.int .i64 z)
  rw [Nat.zero_add]
  refine h.c j ?_
  rcases (by omega : j = 0 ∨ j = 1 ∨ j = 2 ∨ j = 3) with rfl | rfl | rfl | rfl <;> rfl
set_option maxHeartbeats 3200000 in
set_option maxRecDepth 100000 in
theorem kfirst_any {w : World} {A : Option Addr} {n c : Nat} {l : List Bd} (hl : SlX bdR w A n l) (h1000 : n ≤ 1000) (hs : ∀ b ∈ l, b.name.length ≤ maxLen) :
    Calls Tryz.prog 63 #[.slice A n c] w fun e w' => e = .returned (.map (some w.heap.size)) ∧ MapOf w' w.heap.size n (bound l) ∧ Below w.heap.size w w' := by
  have HL := Lib.hid hl; have HS := Lib.hid hs
  obtain ⟨H, hH⟩ : ∃ H, w.heap.size = H := ⟨_, rfl⟩
  have HH := Lib.hid hH
  rw [hH]
  have hmm := @run_makeMap Tryz.prog
  obtain ⟨w1, hw1, M1, B1, hs1⟩ : ∃ w1, w.alloc (.map #[] 0) = w1 ∧ Hid (MapOf w1 H 0 (bound [])) ∧ Hid (Below H w w1) ∧ Hid (H < w1.heap.size) := ⟨_, rfl, Lib.hid (by rw [← hH]; exact mapOf_new w), Lib.hid ((Below.refl _ _).alloc (Nat.le_of_eq hH.symm) _), Lib.hid (by simp [hH])⟩
  clear hl hs
  go_enter Tryz.func63, Tryz.ntmps63
  go_upto_region 2 with fail
  clear hw1 hmm
  go_wp2_with fail
  go_loopw [11] (fun i wr => ∃ k : Nat, k ≤ n ∧ i = .int .i64 k ∧ Hid (MapOf wr H k (bound (l.take k))) ∧ Hid (Below H w wr) ∧ Hid (H < wr.heap.size)) (fun i _ => n - (intOf i).toNat)
  case atStart => exact ⟨0, Nat.zero_le _, rfl, M1, B1, hs1⟩
  case round =>
    clear M1 B1 hs1
    obtain ⟨k, hk, rfl, I1, I2, I3⟩ := hrel
    by_cases hkn : k < n
    · have gk : (k : Int) < (n : Int) := by omega
      have hkl : k < l.length := by rw [HL.out.1]; exact hkn
      obtain ⟨⟨nm, kd⟩, hb⟩ : ∃ b : Bd, l[k] = b := ⟨_, rfl⟩
      have hmem : (⟨nm, kd⟩ : Bd) ∈ l := by rw [← hb]; exact List.getElem_mem _
      have hns := HS.out _ hmem
      have IE := HL.out.on (by rw [HH.out]; exact I2.out)
      obtain ⟨b, off, rfl, hc⟩ := IE.at hkn
      have hd := hc k hkl
      rw [hb] at hd
      have c0 : wr.cell? ⟨b, off + k * 2, none⟩ = some (.string ⟨nm.toArray⟩) := by simpa [bdR] using hd 0 _ rfl
      have c1 : wr.cell? ⟨b, off + k * 2 + 1, none⟩ = some (.int .i64 kd) := hd 1 _ rfl
      have hsb := World.block_lt_of_cell? wr _ c0
      have htk : l.take (k + 1) = l.take k ++ [⟨nm, kd⟩] := by rw [List.take_succ_eq_append_getElem hkl, hb]
      clear hd hc IE hmem hb
      obtain ⟨w5, hw5, XB, b5⟩ : ∃ w5, wr.alloc (.cells #[.string ⟨nm.toArray⟩, .int .i64 kd] 49) = w5 ∧ Box w5 wr.heap.size [.string ⟨nm.toArray⟩, .int .i64 kd] ∧ Below wr.heap.size wr w5 := ⟨_, rfl, Box.new _ _ [.string ⟨nm.toArray⟩, .int .i64 kd], (Below.refl _ _).alloc (Nat.le_refl _) _⟩
      have x0 : w5.cell? ⟨wr.heap.size, 0, none⟩ = some (.string ⟨nm.toArray⟩) := XB.c 0 rfl
      have x1 : w5.cell? ⟨wr.heap.size, 1, none⟩ = some (.int .i64 kd) := XB.c 1 rfl
      have hsx := XB.1
      have M5 := I1.out.on b5
      have B5 : Hid (Below H w w5) := Lib.hid (I2.out.trans (b5.mono (Nat.le_of_lt I3.out)))
      have S5 : Hid (H < w5.heap.size) := Lib.hid (Nat.lt_of_lt_of_le I3.out b5.size)
      have M5h := Lib.hid M5
      have I3h := I3
      clear XB b5 I1 I2 I3
      cases hbd : bound (l.take k) nm with
      | some z =>
        have hlk := mapOf_hit M5 nm hns hbd
        have MF : Hid (MapOf w5 H (k + 1) (bound (l.take (k + 1)))) := Lib.hid (by
          rw [htk, bound_old hbd]
          obtain ⟨D, h1, h2⟩ := M5h.out
          exact ⟨D, h1.mono (Nat.le_succ k), h2⟩)
        clear M5 M5h htk hbd
        go_wp2_with fail
        exact ⟨⟨k + 1, by omega, by congr 1, MF, B5, S5⟩, by simp [intOf]; omega⟩
      | none =>
        have hlk := mapOf_miss M5 nm hns hbd
        clear M5
        have hHk : H ≠ wr.heap.size := by have := I3h.out; omega
        obtain ⟨w7, hw7, b7, hc7⟩ : ∃ w7, (w5.alloc (.cells #[.int .i64 1, .int .i64 2, .int .i64 3, .int .i64 4] 3)).drew = w7 ∧ Below w5.heap.size w5 w7 ∧ (∀ j, j < 4 → w7.cell? ⟨w5.heap.size, 0 + j, none⟩ = some (.int .i64 ([1, 2, 3, 4].getD j 0))) :=
          ⟨_, rfl, ((Below.refl _ _).alloc (Nat.le_refl _) _).drew, four_cells w5⟩
        have O7 := Lib.hid (koneOf_any w5.heap.size 4 4 [1, 2, 3, 4] kd rfl (by omega) hc7)
        have z0 := (b7.cell (p := ⟨wr.heap.size, 0, none⟩) hsx).trans x0
        have z1 := (b7.cell (p := ⟨wr.heap.size, 1, none⟩) hsx).trans x1
        obtain ⟨w9, hmu, M9, g9⟩ := mapOf_put (M5h.out.on b7) (by unfold maxLen; omega) ⟨nm.toArray⟩ (by simpa [ByteArray.size] using hns) (PCheck.oneOf kd [1, 2, 3, 4]) (oneOf_wf kd)
        have S7 : H < w7.heap.size := Nat.lt_of_lt_of_le S5.out b7.size
        have y0 : w9.cell? ⟨wr.heap.size, 0, none⟩ = some (.string ⟨nm.toArray⟩) := g9.cell z0 (by simp only [ne_eq, Option.some.injEq]; omega)
        have y1 : w9.cell? ⟨wr.heap.size, 1, none⟩ = some (.int .i64 kd) := g9.cell z1 (by simp only [ne_eq, Option.some.injEq]; omega)
        have B9 : Hid (Below H w w9) := Lib.hid ((B5.out.trans (b7.mono (Nat.le_of_lt S5.out))).grown g9 (Nat.le_of_lt S7) (fun _ e => by cases e; exact Nat.le_refl _))
        have S9 : Hid (H < w9.heap.size) := Lib.hid (Nat.lt_of_lt_of_le S7 g9.size)
        have MF : Hid (MapOf w9 H (k + 1) (bound (l.take (k + 1)))) := Lib.hid (by
          rw [htk, bound_fresh hbd]
          exact M9)
        clear M5h M9 b7 hc7 htk hbd g9 hns HS HL
        go_upto_region 7 with fail
        clear hw5 c0 c1 hsb hlk
        go_region_held3 (fun w' => w'.cell? ⟨wr.heap.size, 0, none⟩ = some (.string ⟨nm.toArray⟩) ∧ w'.cell? ⟨wr.heap.size, 1, none⟩ = some (.int .i64 kd))
          (first
            | exact ⟨x0, x1⟩
            | exact ⟨z0, z1⟩
            | exact ⟨y0, y1⟩
            | (rw [hw7]; exact ⟨z0, z1⟩)
            | go_keep)
          (first
            | (go_at_call 93; refine (O7.out).mono ?_; rintro _ _ ⟨rfl, rfl⟩))
        clear O7 x0 x1 z0 z1 y0 y1 hmu hw7
        go_wp2_with fail
        exact ⟨⟨k + 1, by omega, by congr 1, MF, B9, S9⟩, by simp [intOf]; omega⟩
    · obtain rfl : k = n := by omega
      have FIN : Hid (MapOf wr H k (bound l)) := Lib.hid (by have h := I1.out; rw [List.take_of_length_le (by rw [HL.out.1]; omega)] at h; exact h)
      clear I1
      go_wp2_with fail
      go_ret
      exact ⟨rfl, FIN.out, I2.out⟩
end Go.Proofs.YtdkcdgjpcojdfaaGreatDoor

namespace Go.Proofs.YtdkcdgjpcojdfaaGreatDoor
open Go.RowKit
open PCheck (Xp Bd bound parts at0 Four)

theorem make_rowK (L : Nat) (h : L ≤ 1000) (W : World) :
    (Instr.makeSlice 36 (.int .i64 (L : Int)) (.int .i64 (L : Int))).run Tryz.prog W = .ok (.slice (some ⟨W.heap.size, 0, none⟩) L L) (W.alloc (.cells (madeCells #[.int .i64 0] L) 3)) :=
  run_make_row' (P := Tryz.prog) 36 3 (.int .i64 0) 8 Tryz.underlying36 (by kernel_rfl) rfl .i64 .i64 L (by omega) (by omega) W
def RwK (w : World) (H N : Nat) (l : List Int) : Prop := l.length = N ∧ ∀ t, t < N → w.cell? ⟨H, t, none⟩ = some (.int .i64 (l.getD t 0)) ∧ w.frozen? ⟨H, t, none⟩ = false
theorem made_rwK (w : World) (L : Nat) : RwK (w.alloc (.cells (madeCells #[.int .i64 0] L) 3)) w.heap.size L (List.replicate L 0) := by
  have e : madeCells #[.int .i64 0] L = (List.replicate L (Value.int .i64 0)).toArray := by
    apply Array.ext'; simp [madeCells, Nat.mod_one, List.map_const']
  rw [e]
  have h := Box.new w 3 (List.replicate L (Value.int .i64 0))
  refine ⟨List.length_replicate, fun t ht => ?_⟩
  have hv : (List.replicate L (Value.int .i64 0))[t]? = some (.int .i64 0) := by simp [ht]
  have h0 : (List.replicate L (0 : Int)).getD t 0 = 0 := by simp [List.getD, ht]
  rw [h0]
  exact ⟨h.c t hv, h.f t hv⟩
theorem RwK.on {w w' : World} {H N : Nat} {l : List Int} (h : RwK w H N l) (hb : Below w.heap.size w w') : RwK w' H N l :=
  ⟨h.1, fun t ht => ⟨(hb.cell (World.block_lt_of_cell? w _ (h.2 t ht).1)).trans (h.2 t ht).1, (hb.frozen (p := ⟨H, t, none⟩) (World.block_lt_of_cell? w _ (h.2 t ht).1)).trans (h.2 t ht).2⟩⟩
theorem RwK.set {w : World} {H N : Nat} {l : List Int} (h : RwK w H N l) {t : Nat} (ht : t < N) (z : Int) : RwK (w.setCell ⟨H, t, none⟩ (.int .i64 z)) H N (l.set t z) := by
  refine ⟨by rw [List.length_set]; exact h.1, fun s hs => ⟨?_, by rw [box_frozen_set]; exact (h.2 s hs).2⟩⟩
  by_cases e : s = t
  · subst e
    rw [World.cell?_setCell_same _ _ _ (h.2 s hs).1]
    simp [List.getD, h.1, hs]
  · rw [World.cell?_setCell_other _ _ _ _ (by intro c; simp only [Addr.mk.injEq] at c; omega), (h.2 s hs).1]
    simp only [List.getD, List.getElem?_set_ne (Ne.symm e)]
theorem RwK.far {w : World} {H N : Nat} {l : List Int} (h : RwK w H N l) {p : Addr} (hp : p.block ≠ H) (v : Value) : RwK (w.setCell p v) H N l :=
  ⟨h.1, fun s hs => ⟨by rw [World.cell?_setCell_far _ _ _ _ hp]; exact (h.2 s hs).1, by rw [box_frozen_set]; exact (h.2 s hs).2⟩⟩
theorem four_at0 {ks : List Int} (h : ∀ j, Four (ks.getD j 0)) (p : List Int) (i : Nat) : Four (at0 ks p i) := by
  unfold PCheck.at0
  cases p[i]? with
  | none => exact .inl rfl
  | some q => exact h _
theorem kindOf_none {l : List Bd} {x : Xp} {ks : List Int} (h : x.op = PCheck.nameS) (hb : bound l x.name = none) : PCheck.kindOf l x ks = (0, 5) := by unfold PCheck.kindOf; rw [if_pos h, hb]
theorem kindOf_name0 {l : List Bd} {x : Xp} {ks : List Int} (h : x.op = PCheck.nameS) (hb : bound l x.name = some 0) : PCheck.kindOf l x ks = (0, 7) := by unfold PCheck.kindOf; rw [if_pos h, hb]; rfl
theorem kindOf_name {l : List Bd} {x : Xp} {ks : List Int} (h : x.op = PCheck.nameS) {z : Int} (hb : bound l x.name = some z) (hz : z ≠ 0) : PCheck.kindOf l x ks = (z, 0) := by unfold PCheck.kindOf; rw [if_pos h, hb]; exact if_neg hz
theorem kindOf_other0 {l : List Bd} {x : Xp} {ks : List Int} (h : x.op ≠ PCheck.nameS) (hb : PCheck.kindBy x.op (at0 ks (parts x) 0) (at0 ks (parts x) 1) (at0 ks (parts x) 2) = 0) : PCheck.kindOf l x ks = (0, 7) := by unfold PCheck.kindOf; rw [if_neg h, hb]; rfl
theorem kindOf_other {l : List Bd} {x : Xp} {ks : List Int} (h : x.op ≠ PCheck.nameS) {z : Int} (hb : PCheck.kindBy x.op (at0 ks (parts x) 0) (at0 ks (parts x) 1) (at0 ks (parts x) 2) = z) (hz : z ≠ 0) : PCheck.kindOf l x ks = (z, 0) := by unfold PCheck.kindOf; rw [if_neg h, hb]; exact if_neg hz
def ofV (ks P : List Int) (t : Nat) : List Value := [.int .i64 (if 0 < t then at0 ks P 0 else 0), .int .i64 (if 1 < t then at0 ks P 1 else 0), .int .i64 (if 2 < t then at0 ks P 2 else 0)]
theorem ofV_len (ks P : List Int) (t : Nat) : (ofV ks P t).length = 3 := rfl
theorem ofV_at (ks P : List Int) {t : Nat} (h : t < 3) : (ofV ks P t)[t]? = some (.int .i64 0) := by
  rcases (by omega : t = 0 ∨ t = 1 ∨ t = 2) with rfl | rfl | rfl <;> rfl
theorem ofV_set {ks P : List Int} {t pn : Nat} (h : t < 3) (hp : P[t]? = some (pn : Int)) : (ofV ks P t).set t (.int .i64 (ks.getD pn 0)) = ofV ks P (t + 1) := by
  have e : at0 ks P t = ks.getD pn 0 := by unfold PCheck.at0; rw [hp]; rfl
  rw [← e]
  rcases (by omega : t = 0 ∨ t = 1 ∨ t = 2) with rfl | rfl | rfl <;> rfl
theorem ofV_end (ks P : List Int) : ofV ks P P.length = [.int .i64 (at0 ks P 0), .int .i64 (at0 ks P 1), .int .i64 (at0 ks P 2)] := by
  have z : ∀ i, ¬ i < P.length → at0 ks P i = 0 := fun i hi => by unfold PCheck.at0; rw [List.getElem?_eq_none (by omega)]
  unfold ofV
  congr 1
  · by_cases e : 0 < P.length
    · rw [if_pos e]
    · rw [if_neg e, z 0 e]
  congr 1
  · by_cases e : 1 < P.length
    · rw [if_pos e]
    · rw [if_neg e, z 1 e]
  congr 1
  · by_cases e : 2 < P.length
    · rw [if_pos e]
    · rw [if_neg e, z 2 e]
def KoAns (k : Int × Nat) (w : World) (e : Ending) (w' : World) : Prop := e = .returned (.tuple #[.int .i64 k.1, .int .i64 (k.2 : Int)]) ∧ Below w.heap.size w w'
set_option maxHeartbeats 3200000 in
set_option maxRecDepth 100000 in
theorem kkindOf_any {w : World} {x : Xp} {ks : List Int} {l : List Bd} {K n N Bm c : Nat} (hK : RwK w K n ks) (hM : MapOf w Bm N (bound l)) (hx : x.name.length ≤ maxLen) (hp : ∀ p ∈ parts x, 0 ≤ p ∧ p < (n : Int)) (h4 : ∀ j, Four (ks.getD j 0)) :
    Calls Tryz.prog 64 #[.agg (xpC x).toArray, .slice (some ⟨K, 0, none⟩) n c, .map (some Bm)] w (KoAns (PCheck.kindOf l x ks) w) := by
  obtain ⟨F, hF⟩ : ∃ F, PCheck.kindOf l x ks = F := ⟨_, rfl⟩
  rw [hF]
  obtain ⟨Q, hQ⟩ : ∃ Q, KoAns F w = Q := ⟨_, rfl⟩
  rw [hQ]
  have HQ := Lib.hid hQ
  obtain ⟨op, nm, vl, ya, yb, yc⟩ := x
  obtain ⟨w1, hw1, XB, b1⟩ : ∃ w1, w.alloc (.cells #[.string ⟨op.toArray⟩, .string ⟨nm.toArray⟩, .int .i64 vl, .int .i64 ya, .int .i64 yb, .int .i64 yc] 58) = w1 ∧ Box w1 w.heap.size [.string ⟨op.toArray⟩, .string ⟨nm.toArray⟩, .int .i64 vl, .int .i64 ya, .int .i64 yb, .int .i64 yc] ∧ Below w.heap.size w w1 := ⟨_, rfl, Box.new _ _ [.string ⟨op.toArray⟩, .string ⟨nm.toArray⟩, .int .i64 vl, .int .i64 ya, .int .i64 yb, .int .i64 yc], (Below.refl _ _).alloc (Nat.le_refl _) _⟩
  have HW1 := Lib.hid hw1; have B1 := Lib.hid b1
  have M1 := hM.on b1
  have HK := Lib.hid (hK.on b1)
  have HXB := Lib.hid XB
  obtain ⟨x0, x1, x2, x3, x4, x5⟩ := box6 XB
  have hsx := XB.1
  clear hw1 b1 XB hM hK hQ
  unfold xpC
  by_cases hop : op = PCheck.nameS
  · subst hop
    unfold PCheck.nameS at *
    cases hb : bound l nm with
    | none =>
      have HF : Hid (((0 : Int), 5) = F) := Lib.hid ((kindOf_none rfl hb).symm.trans hF)
      have hlk := mapOf_miss M1 nm hx hb
      clear M1 hF hx hp hb
      go_enter Tryz.func64, Tryz.ntmps64
      go_upto_region 1 with fail
      rw [HW1.out]
      go_wp2_with fail
      rw [← HQ.out, ← HF.out]
      exact ⟨rfl, B1.out⟩
    | some z =>
      have hlk := mapOf_hit M1 nm hx hb
      by_cases hz : z = 0
      · subst hz
        have HF : Hid (((0 : Int), 7) = F) := Lib.hid ((kindOf_name0 rfl hb).symm.trans hF)
        clear M1 hF hx hp hb
        go_enter Tryz.func64, Tryz.ntmps64
        go_upto_region 1 with fail
        rw [HW1.out]
        go_wp2_with fail
        rw [← HQ.out, ← HF.out]
        exact ⟨rfl, B1.out⟩
      · have hzb : (z == 0) = false := by rw [beq_eq_false_iff_ne]; exact hz
        have HF : Hid ((z, 0) = F) := Lib.hid ((kindOf_name rfl hb hz).symm.trans hF)
        clear M1 hF hx hp hb hz
        go_enter Tryz.func64, Tryz.ntmps64
        go_upto_region 1 with fail
        rw [HW1.out]
        go_wp2_with fail
        rw [← HQ.out, ← HF.out]
        exact ⟨rfl, B1.out⟩
  · have e4 := kb_ne (op := op) (l := [PCheck.nameS]) (by simpa using hop) (s := [110, 97, 109, 101]) (by decide)
    obtain ⟨P0, hP0⟩ : ∃ P0, parts ⟨op, nm, vl, ya, yb, yc⟩ = P0 := ⟨_, rfl⟩
    have hpl := parts_few3 ⟨op, nm, vl, ya, yb, yc⟩
    have h0 := fun hb => (kindOf_other0 (l := l) (x := ⟨op, nm, vl, ya, yb, yc⟩) (ks := ks) hop hb).symm.trans hF
    have h1 := fun z hb hz => (kindOf_other (l := l) (x := ⟨op, nm, vl, ya, yb, yc⟩) (ks := ks) (z := z) hop hb hz).symm.trans hF
    rw [hP0] at hp hpl h0 h1
    have HF := Lib.hid (And.intro h0 h1)
    clear h0 h1
    obtain ⟨w2, hw2, TB, b2⟩ : ∃ w2, w1.alloc (.cells #[.int .i64 0, .int .i64 0, .int .i64 0] 129) = w2 ∧ Box w2 w1.heap.size [.int .i64 0, .int .i64 0, .int .i64 0] ∧ Below w1.heap.size w1 w2 := ⟨_, rfl, Box.new _ _ [.int .i64 0, .int .i64 0, .int .i64 0], (Below.refl _ _).alloc (Nat.le_refl _) _⟩
    have HW2 := Lib.hid hw2
    have HKT : Hid (∀ s, s < n → K < w1.heap.size) := Lib.hid (fun s hs => World.block_lt_of_cell? w1 _ (HK.out.2 s hs).1)
    have KP := kparts_any ⟨op, nm, vl, ya, yb, yc⟩ w2
    rw [hP0] at KP
    unfold xpC at KP
    have HKP := Lib.hid KP
    have XB2 := HXB.out.on b2
    have K2 := Lib.hid (HK.out.on b2)
    have B2 := Lib.hid (below_step B1.out b2)
    have HTB := Lib.hid TB
    have hs2 := TB.1
    clear HK x1 x2 x3 x4 x5 KP hP0
    obtain ⟨y0, y1, y2, y3, y4, y5⟩ := box6 XB2
    have XB2h := Lib.hid XB2
    have hsx2 := XB2.1
    clear XB2 hw2 b2 TB B1 HXB
    go_enter Tryz.func64, Tryz.ntmps64
    go_upto_region 1 with fail
    rw [HW1.out]
    go_upto_region 8 with fail
    rw [HW2.out]
    clear HW1 HW2 x0
    go_wp2_with fail
    refine (HKP.out).mono ?_
    rintro _ w3 ⟨PA, pc, rfl, hpt, b3⟩
    have P3 : Hid (PtI w3 (w1.heap.size + 1) PA P0) := Lib.hid (by
      rcases hpt with h | ⟨g, h1, h2, h3⟩
      · exact .inl h
      · exact .inr ⟨g, h1, Nat.le_trans hs2 h2, h3⟩)
    have K3 := Lib.hid (K2.out.on b3)
    have B3 := Lib.hid (below_step B2.out b3)
    have T3 : Hid (Box w3 w1.heap.size (ofV ks P0 0)) := Lib.hid (HTB.out.on b3)
    have C3 : Hid (w3.cell? ⟨w.heap.size, 0, none⟩ = some (.string ⟨op.toArray⟩)) := Lib.hid ((b3.cell (p := ⟨w.heap.size, 0, none⟩) hsx2).trans y0)
    clear hpt b3 K2 B2 HTB XB2h HKP y0 y1 y2 y3 y4 y5 hsx2 hs2
    go_wp2_with fail
    go_loopw [30] (fun q wx => ∃ t : Nat, t ≤ P0.length ∧ q = .int .i64 t ∧ Hid (Box wx w1.heap.size (ofV ks P0 t)) ∧ Hid (PtI wx (w1.heap.size + 1) PA P0) ∧ Hid (RwK wx K n ks) ∧ Hid (wx.cell? ⟨w.heap.size, 0, none⟩ = some (.string ⟨op.toArray⟩)) ∧ Hid (Below w.heap.size w wx)) (fun q _ => P0.length - (intOf q).toNat)
    case atStart => exact ⟨0, Nat.zero_le _, rfl, T3, P3, K3, C3, B3⟩
    case round =>
      clear P3 K3 B3 T3 C3
      obtain ⟨t, ht, rfl, I1, I2, I3, I4, I5⟩ := hrel
      by_cases htl : t < P0.length
      · obtain ⟨pb, rfl, cp⟩ := ptI_at I2.out htl
        obtain ⟨p, hp1⟩ : ∃ p, P0[t] = p := ⟨_, rfl⟩
        rw [hp1] at cp
        have hsp := World.block_lt_of_cell? wr _ cp
        have hpp := hp p (by rw [← hp1]; exact List.getElem_mem _)
        obtain ⟨pn, rfl⟩ : ∃ pn : Nat, p = pn := ⟨p.toNat, by omega⟩
        have hpn : pn < n := by omega
        have gp : (pn : Int) < (n : Int) := by omega
        have g0 : (0 : Int) ≤ (pn : Int) := by omega
        have ht3 : t < 3 := by omega
        have gt3 : (t : Int) < 3 := by omega
        have gtl : (t : Int) < (P0.length : Int) := by omega
        obtain ⟨ck, -⟩ := I3.out.2 pn hpn
        have ct := I1.out.c t (ofV_at ks P0 ht3)
        have ft := I1.out.f t (ofV_at ks P0 ht3)
        have hst := I1.out.1
        have hsk := World.block_lt_of_cell? wr _ ck
        have hK := HKT.out pn hpn
        have hPt : P0[t]? = some (pn : Int) := by rw [List.getElem?_eq_getElem htl, hp1]
        have hset := I1.out.set t (by rw [ofV_len]; exact ht3) (.int .i64 (ks.getD pn 0))
        rw [ofV_set ht3 hPt] at hset
        have J1 := Lib.hid hset
        have J2 := Lib.hid (I2.out.far (Nat.lt_succ_self _) t (.int .i64 (ks.getD pn 0)))
        have J3 : Hid (RwK (wr.setCell ⟨w1.heap.size, t, none⟩ (.int .i64 (ks.getD pn 0))) K n ks) := Lib.hid (I3.out.far (by show w1.heap.size ≠ K; omega) _)
        have J4 : Hid ((wr.setCell ⟨w1.heap.size, t, none⟩ (.int .i64 (ks.getD pn 0))).cell? ⟨w.heap.size, 0, none⟩ = some (.string ⟨op.toArray⟩)) := Lib.hid (by rw [World.cell?_setCell_far _ _ _ _ (by show w1.heap.size ≠ w.heap.size; omega)]; exact I4.out)
        have J5 := Lib.hid (I5.out.setCell (p := ⟨w1.heap.size, t, none⟩) (Nat.le_of_lt hsx) (.int .i64 (ks.getD pn 0)))
        clear hset hPt I1 I2 I3 I4 I5 hp1 hp hpp HF HKT
        go_wp2_with fail
        exact ⟨⟨t + 1, by omega, by congr 1, J1, J2, J3, J4, J5⟩, by simp [intOf]; omega⟩
      · obtain rfl : t = P0.length := by omega
        have TB := I1.out
        rw [ofV_end] at TB
        obtain ⟨t0, t1, t2⟩ := box3 TB
        have ca := I4.out
        have hsT := TB.1
        have hsV := World.block_lt_of_cell? wr _ ca
        have KB := Lib.hid (kkindBy_any (op := op) (c := at0 ks P0 2) (four_at0 h4 P0 0) (four_at0 h4 P0 1) wr)
        obtain ⟨z, hz⟩ : ∃ z, PCheck.kindBy op (at0 ks P0 0) (at0 ks P0 1) (at0 ks P0 2) = z := ⟨_, rfl⟩
        rw [hz] at KB
        by_cases hz0 : z = 0
        · have HF2 := Lib.hid (HF.out.1 (by rw [← hz0]; exact hz))
          subst hz0
          clear TB I1 I2 I3 I4 HF HKT hp hz ht htl
          go_wp2_with fail
          refine (KB.out).mono ?_
          rintro _ w9 ⟨rfl, b9⟩
          have B9 := Lib.hid (below_step I5.out b9)
          clear b9 I5 KB t0 t1 t2 ca hsT hsV
          go_wp2_with fail
          rw [← HQ.out, ← HF2.out]
          exact ⟨rfl, B9.out⟩
        · have HF2 := Lib.hid (HF.out.2 z hz hz0)
          have hzb : (z == 0) = false := by rw [beq_eq_false_iff_ne]; exact hz0
          clear TB I1 I2 I3 I4 HF HKT hp hz ht htl hz0
          go_wp2_with fail
          refine (KB.out).mono ?_
          rintro _ w9 ⟨rfl, b9⟩
          have B9 := Lib.hid (below_step I5.out b9)
          clear b9 I5 KB t0 t1 t2 ca hsT hsV
          go_wp2_with fail
          rw [← HQ.out, ← HF2.out]
          exact ⟨rfl, B9.out⟩
end Go.Proofs.YtdkcdgjpcojdfaaGreatDoor

namespace Go.Proofs.YtdkcdgjpcojdfaaGreatDoor
open Go.RowKit
open PCheck (Xp Bd bound parts at0 Four madeF made kindsF told Fine)

theorem SlX.take {α : Type} {R : Rec α} {w : World} {A : Option Addr} {n k : Nat} {l : List α} (h : SlX R w A n l) (hk : k ≤ n) : SlX R w A k (l.take k) := by
  obtain ⟨h1, h2⟩ := h
  refine ⟨by rw [List.length_take]; omega, ?_⟩
  rcases h2 with h2 | ⟨b, off, h3, h4⟩
  · exact .inl (by omega)
  · exact .inr ⟨b, off, h3, fun i hi j v e => by
      have hi2 : i < k ∧ i < l.length := by rw [List.length_take] at hi; omega
      rw [List.getElem_take] at e
      exact h4 i hi2.2 j v e⟩
theorem madeF_take (E : List Xp) (k : Nat) : ∀ (i : Nat) (m : List Bool), i ≤ k → madeF (E.take k) i m = madeF E i m
  | 0, _, _ => rfl
  | i + 1, m, h => by
    have e : (E.take k)[i]? = E[i]? := by rw [List.getElem?_take, if_pos (by omega)]
    unfold madeF
    rw [e]
    cases E[i]? with
    | none => rfl
    | some x =>
      simp only []
      rw [madeF_take E k i m (by omega)]
      cases PCheck.mark i (parts x) m with
      | none => rfl
      | some m' => simp only []; rw [madeF_take E k i m' (by omega)]
theorem made_take {E : List Xp} {r : Nat} : made (E.take (r + 1)) r = made E r := by
  unfold PCheck.made
  exact madeF_take E (r + 1) (r + 1) _ (Nat.le_refl _)
theorem RwB.far {w : World} {H N : Nat} {l : List Bool} (h : RwB w H N l) {p : Addr} (hp : p.block ≠ H) (v : Value) : RwB (w.setCell p v) H N l :=
  ⟨h.1, fun s hs => ⟨by rw [World.cell?_setCell_far _ _ _ _ hp]; exact (h.2 s hs).1, by rw [box_frozen_set]; exact (h.2 s hs).2⟩⟩
theorem MapOf.far {w : World} {b n : Nat} {f : List UInt8 → Option Int} (h : MapOf w b n f) {p : Addr} (hp : b ≠ p.block) (v : Value) : MapOf (w.setCell p v) b n f := by
  obtain ⟨D, ⟨es, clock, h1, h2⟩, h3⟩ := h
  exact ⟨D, ⟨es, clock, (Below.heap_setCell _ _ _ _ hp).trans h1, h2⟩, h3⟩
theorem four_set {ks : List Int} (h : ∀ j, Four (ks.getD j 0)) (i : Nat) {z : Int} (hz : Four z) : ∀ j, Four ((ks.set i z).getD j 0) := fun j => by
  by_cases e : i = j
  · subst e
    by_cases hi : i < ks.length
    · simp only [List.getD, List.getElem?_set_self hi]; exact hz
    · rw [List.set_eq_of_length_le (by omega)]; exact h i
  · simp only [List.getD, List.getElem?_set_ne e]; exact h j
theorem four_rep (n : Nat) : ∀ j, Four ((List.replicate n (0 : Int)).getD j 0) := fun j => .inl (by
  simp only [List.getD, List.getElem?_replicate]
  by_cases h : j < n
  · rw [if_pos h]; rfl
  · rw [if_neg h]; rfl)
theorem made_fine {E : List Xp} {r : Nat} (hr : r < E.length) {m : List Bool} (h : made E r = some m) : m.length = r + 1 ∧ ∀ k, m[k]? = some true → ∃ x, E[k]? = some x ∧ Fine k x := by
  have hs := PCheck.made_spec hr
  rw [h] at hs
  exact ⟨hs.1, fun k hk => hs.2.2 k ((hs.2.1 k).1 hk)⟩
theorem kind_out {E : List Xp} {l : List Bd} {r : Int} (h : r < 0 ∨ (E.length : Int) ≤ r) : PCheck.kind E r l = (0, 0, 1) := by unfold PCheck.kind; rw [if_pos h]
theorem kind_unmade {E : List Xp} {l : List Bd} {r : Nat} (h : r < E.length) (hm : made E r = none) : PCheck.kind E r l = (0, 0, 1) := by
  unfold PCheck.kind; rw [if_neg (by omega), Int.toNat_natCast, hm]
theorem kind_made {E : List Xp} {l : List Bd} {r : Nat} (h : r < E.length) {m : List Bool} (hm : made E r = some m) : PCheck.kind E r l = told r (kindsF l E m (r + 1) 0 (List.replicate (r + 1) 0)) := by
  unfold PCheck.kind; rw [if_neg (by omega), Int.toNat_natCast, hm]
theorem kindsF_skip {l : List Bd} {E : List Xp} {m : List Bool} {f i : Nat} {ks : List Int} {x : Xp} (hx : E[i]? = some x) (h : m.getD i false = false) : kindsF l E m (f + 1) i ks = kindsF l E m f (i + 1) ks := by
  have e : m[i]? ≠ some true := fun e => by rw [List.getD, e] at h; cases h
  conv => lhs; unfold kindsF
  rw [hx]
  show (if m[i]? = some true then _ else _) = _
  rw [if_neg e]
theorem kindsF_go {l : List Bd} {E : List Xp} {m : List Bool} {f i : Nat} {ks : List Int} {x : Xp} (hx : E[i]? = some x) (h : m[i]? = some true) (hk : (PCheck.kindOf l x ks).2 = 0) : kindsF l E m (f + 1) i ks = kindsF l E m f (i + 1) (ks.set i (PCheck.kindOf l x ks).1) := by
  conv => lhs; unfold kindsF
  rw [hx]
  show (if m[i]? = some true then (if (PCheck.kindOf l x ks).2 = 0 then _ else _) else _) = _
  rw [if_pos h, if_pos hk]
theorem kindsF_err {l : List Bd} {E : List Xp} {m : List Bool} {f i : Nat} {ks : List Int} {x : Xp} (hx : E[i]? = some x) (h : m[i]? = some true) (hk : (PCheck.kindOf l x ks).2 ≠ 0) : kindsF l E m (f + 1) i ks = ((PCheck.kindOf l x ks).2, i, ks) := by
  conv => lhs; unfold kindsF
  rw [hx]
  show (if m[i]? = some true then (if (PCheck.kindOf l x ks).2 = 0 then _ else _) else _) = _
  rw [if_pos h, if_neg hk]
theorem told_err {r e i : Nat} {ks : List Int} (h : e ≠ 0) : told r (e, i, ks) = (0, i, e) := by
  cases e with
  | zero => exact absurd rfl h
  | succ e => rfl
theorem getD_true {m : List Bool} {i : Nat} (h : m.getD i false = true) : m[i]? = some true := by
  unfold List.getD at h
  cases e : m[i]? with
  | none => rw [e] at h; cases h
  | some b => rw [e] at h; exact congrArg some h
def KdAns (F : Int × Nat × Nat) (w : World) (e : Ending) (w' : World) : Prop := e = .returned (.tuple #[.int .i64 F.1, .int .i64 (F.2.1 : Int), .int .i64 (F.2.2 : Int)]) ∧ Below w.heap.size w w'
set_option maxHeartbeats 6400000 in
set_option maxRecDepth 100000 in
theorem kKind_any {w : World} {TA LA A : Option Addr} {tn tc n c ln lc : Nat} {E : List Xp} {l : List Bd} {r : Int} (hE : SlX xpR w A n E) (hc : n ≤ c) (hL : SlX bdR w LA ln l) (hn : n ≤ 1000) (hl : ln ≤ 1000) (hxn : ∀ x ∈ E, x.name.length ≤ maxLen) (hln : ∀ b ∈ l, b.name.length ≤ maxLen) :
    Calls Tryz.prog 37 #[.agg #[.slice TA tn tc, .slice A n c], .int .i64 r, .slice LA ln lc] w (KdAns (PCheck.kind E r l) w) := by
  obtain ⟨F, hF⟩ : ∃ F, PCheck.kind E r l = F := ⟨_, rfl⟩
  rw [hF]
  obtain ⟨Q, hQ⟩ : ∃ Q, KdAns F w = Q := ⟨_, rfl⟩
  rw [hQ]
  have HQ := Lib.hid hQ
  obtain ⟨w1, hw1, XB, b1⟩ : ∃ w1, w.alloc (.cells #[.slice TA tn tc, .slice A n c] 32) = w1 ∧ Box w1 w.heap.size [.slice TA tn tc, .slice A n c] ∧ Below w.heap.size w w1 := ⟨_, rfl, Box.new _ _ [.slice TA tn tc, .slice A n c], (Below.refl _ _).alloc (Nat.le_refl _) _⟩
  have HW1 := Lib.hid hw1; have B1 := Lib.hid b1
  have x0 : w1.cell? ⟨w.heap.size, 0, none⟩ = some (.slice TA tn tc) := XB.c 0 rfl
  have x1 : w1.cell? ⟨w.heap.size, 1, none⟩ = some (.slice A n c) := XB.c 1 rfl
  have hsx := XB.1
  have HE0 := Lib.hid hE; have HE := Lib.hid (hE.on b1); have HL := Lib.hid (hL.on b1)
  have hEl : E.length = n := hE.1
  clear hw1 b1 XB hE hL hQ
  by_cases h0 : r < 0
  · have HF : Hid (((0 : Int), 0, 1) = F) := Lib.hid ((kind_out (.inl h0)).symm.trans hF)
    clear hF
    go_enter Tryz.func37, Tryz.ntmps37
    go_upto_region 1 with fail
    rw [HW1.out]
    go_wp2_with fail
    rw [← HQ.out, ← HF.out]
    exact ⟨rfl, B1.out⟩
  by_cases h1 : (n : Int) ≤ r
  · have HF : Hid (((0 : Int), 0, 1) = F) := Lib.hid ((kind_out (.inr (by omega))).symm.trans hF)
    clear hF
    go_enter Tryz.func37, Tryz.ntmps37
    go_upto_region 1 with fail
    rw [HW1.out]
    go_wp2_with fail
    rw [← HQ.out, ← HF.out]
    exact ⟨rfl, B1.out⟩
  obtain ⟨k0, rfl⟩ : ∃ k0 : Nat, r = k0 := ⟨r.toNat, by omega⟩
  have hkn : k0 < n := by omega
  obtain ⟨ab, aoff, hAe, -⟩ := HE.out.at hkn
  subst hAe
  have KM := kmade_any (c := c) (HE.out.take (k := k0 + 1) (by omega)) (by omega) (by omega)
  rw [Nat.add_sub_cancel, made_take] at KM
  have HKM := Lib.hid KM
  have g1 : (k0 : Int) + 1 ≤ (c : Int) := by omega
  have g2 : (0 : Int) ≤ (k0 : Int) + 1 := by omega
  have g3 : (k0 : Int) + 1 ≤ 1000 := by omega
  have g4 : ((k0 : Int) + 1).toNat = k0 + 1 := by omega
  clear KM
  go_enter Tryz.func37, Tryz.ntmps37
  go_upto_region 1 with fail
  rw [HW1.out]
  go_upto_region 4 with fail
  clear HW1
  cases hmd : made E k0 with
  | none =>
    have HF : Hid (((0 : Int), 0, 1) = F) := Lib.hid ((kind_unmade (by omega) hmd).symm.trans hF)
    rw [hmd] at HKM
    clear hF x0 x1
    go_wp2_with fail
    refine (HKM.out).mono ?_
    rintro _ w2 ⟨b2, rfl⟩
    have B2 := Lib.hid (below_step B1.out b2)
    clear b2 HKM
    go_wp2_with fail
    rw [← HQ.out, ← HF.out]
    exact ⟨rfl, B2.out⟩
  | some m =>
    have HF : Hid (told k0 (kindsF l E m (k0 + 1) 0 (List.replicate (k0 + 1) 0)) = F) := Lib.hid ((kind_made (by omega) hmd).symm.trans hF)
    obtain ⟨hml, hfine⟩ := made_fine (by omega) hmd
    have HFI := Lib.hid hfine
    rw [hmd] at HKM
    clear hF x0 x1 hmd hfine
    go_wp2_with fail
    refine (HKM.out).mono ?_
    rintro _ w2 ⟨b2, rfl, hrw⟩
    have B2 := Lib.hid (below_step B1.out b2)
    have L2 := HL.out.on b2
    have R2 := Lib.hid hrw
    have hs2 : w1.heap.size < w2.heap.size := World.block_lt_of_cell? w2 _ (hrw.2 0 (by omega)).1
    have KF := Lib.hid (kfirst_any (c := lc) L2 hl hln)
    clear b2 HKM HE HL L2 hrw hln
    go_wp2_with fail
    refine (KF.out).mono ?_
    rintro _ w3 ⟨rfl, hmap, b3⟩
    have B3 := Lib.hid (below_step B2.out b3)
    have R3 := R2.out.on b3
    have hs3 : w2.heap.size < w3.heap.size := hmap.lt
    have ek : ((k0 + 1 : Nat) : Int) = (k0 : Int) + 1 := by omega
    have hmk := fun W => make_rowK (k0 + 1) (by omega) W
    rw [ek] at hmk
    obtain ⟨w4, hw4, K4, b4⟩ : ∃ w4, w3.alloc (.cells (madeCells #[.int .i64 0] (k0 + 1)) 3) = w4 ∧ Hid (RwK w4 w3.heap.size (k0 + 1) (List.replicate (k0 + 1) 0)) ∧ Below w3.heap.size w3 w4 := ⟨_, rfl, Lib.hid (made_rwK w3 (k0 + 1)), (Below.refl _ _).alloc (Nat.le_refl _) _⟩
    have B4 := Lib.hid (below_step B3.out b4)
    have R4 := Lib.hid (R3.on b4)
    have M4 := Lib.hid (hmap.on b4)
    clear b3 b4 R3 hmap R2 B1 B2 B3 KF
    go_upto_region 9 with fail
    clear hw4 hmk
    have S4 : Hid (w3.heap.size < w4.heap.size) := Lib.hid (World.block_lt_of_cell? w4 _ (K4.out.2 0 (by omega)).1)
    have D4 := Lib.hid (four_rep (k0 + 1))
    go_wp2_with fail
    go_loopw [46] (fun q wx => ∃ (t f : Nat) (ks : List Int), t + f = k0 + 1 ∧ q = .int .i64 t ∧ Hid (told k0 (kindsF l E m f t ks) = F) ∧ Hid (RwK wx w3.heap.size (k0 + 1) ks) ∧ Hid (RwB wx w1.heap.size (k0 + 1) m) ∧ Hid (MapOf wx w2.heap.size ln (bound l)) ∧ Hid (Below w.heap.size w wx) ∧ Hid (∀ j, Four (ks.getD j 0)) ∧ Hid (w3.heap.size < wx.heap.size)) (fun q _ => k0 + 1 - (intOf q).toNat)
    case atStart => exact ⟨0, k0 + 1, _, by omega, rfl, HF, K4, R4, M4, B4, D4, S4⟩
    case round =>
      clear HF K4 R4 M4 B4 D4 S4
      obtain ⟨t, f, ks, htf, rfl, I1, I2, I3, I4, I6, I7, I8⟩ := hrel
      cases f with
      | zero =>
        obtain rfl : t = k0 + 1 := by omega
        have ck := (I2.out.2 k0 (by omega)).1
        have hsk := I8.out
        have hK : k0 < ks.length := by rw [I2.out.1]; omega
        obtain ⟨z, hz⟩ : ∃ z, ks.getD k0 0 = z := ⟨_, rfl⟩
        have FIN : Hid ((z, 0, 0) = F) := Lib.hid (by rw [← hz]; exact I1.out)
        rw [hz] at ck
        clear I1 I2 I3 I4 I7 I8 hz hK
        go_wp2_with fail
        rw [← HQ.out, ← FIN.out]
        exact ⟨rfl, I6.out⟩
      | succ f =>
        have htk : t < k0 + 1 := by omega
        have gtk : (t : Int) < (k0 : Int) + 1 := by omega
        have htE : t < E.length := by omega
        have hx := List.getElem?_eq_getElem htE
        obtain ⟨x, hxx⟩ : ∃ x, E[t] = x := ⟨_, rfl⟩
        have hmem : x ∈ E := by rw [← hxx]; exact List.getElem_mem _
        have hnm := hxn x hmem
        obtain ⟨b', off', hbe, hcx⟩ := (HE0.out.on I6.out).at (show t < n by omega)
        cases hbe
        have hd := hcx t htE
        rw [hxx] at hd hx
        have c0 : wr.cell? ⟨ab, aoff + t * 6, none⟩ = some (.string ⟨x.op.toArray⟩) := by simpa [xpR] using hd 0 _ rfl
        have c1 : wr.cell? ⟨ab, aoff + t * 6 + 1, none⟩ = some (.string ⟨x.name.toArray⟩) := hd 1 _ rfl
        have c2 : wr.cell? ⟨ab, aoff + t * 6 + 2, none⟩ = some (.int .i64 x.value) := hd 2 _ rfl
        have c3 : wr.cell? ⟨ab, aoff + t * 6 + 3, none⟩ = some (.int .i64 x.a) := hd 3 _ rfl
        have c4 : wr.cell? ⟨ab, aoff + t * 6 + 4, none⟩ = some (.int .i64 x.b) := hd 4 _ rfl
        have c5 : wr.cell? ⟨ab, aoff + t * 6 + 5, none⟩ = some (.int .i64 x.c) := hd 5 _ rfl
        have hsb := World.block_lt_of_cell? wr _ c0
        obtain ⟨w5, hw5, XB, b5⟩ : ∃ w5, wr.alloc (.cells #[.string ⟨x.op.toArray⟩, .string ⟨x.name.toArray⟩, .int .i64 x.value, .int .i64 x.a, .int .i64 x.b, .int .i64 x.c] 58) = w5 ∧ Box w5 wr.heap.size [.string ⟨x.op.toArray⟩, .string ⟨x.name.toArray⟩, .int .i64 x.value, .int .i64 x.a, .int .i64 x.b, .int .i64 x.c] ∧ Below wr.heap.size wr w5 := ⟨_, rfl, Box.new _ _ [.string ⟨x.op.toArray⟩, .string ⟨x.name.toArray⟩, .int .i64 x.value, .int .i64 x.a, .int .i64 x.b, .int .i64 x.c], (Below.refl _ _).alloc (Nat.le_refl _) _⟩
        have J2 := Lib.hid (I2.out.on b5); have J3 := Lib.hid (I3.out.on b5); have J4 := Lib.hid (I4.out.on b5)
        have J6 : Hid (Below w.heap.size w w5) := Lib.hid (below_step I6.out (b5.mono (Nat.le_refl _)))
        have J8 : Hid (w3.heap.size < w5.heap.size) := Lib.hid (Nat.lt_of_lt_of_le I8.out b5.size)
        obtain ⟨u1, -⟩ := J3.out.2 t htk
        obtain ⟨x0, x1, x2, x3, x4, x5⟩ := box6 XB
        have hs5 := XB.1
        clear XB b5 hd hcx I2 I3 I4 I6 I8 hxx hmem
        go_upto_region 12 with fail
        clear hw5 c0 c1 c2 c3 c4 c5 hsb
        cases hb : m.getD t false with
        | false =>
          have FIN : Hid (told k0 (kindsF l E m f (t + 1) ks) = F) := Lib.hid (by rw [← kindsF_skip hx hb]; exact I1.out)
          rw [hb] at u1
          clear I1 hx hb x0 x1 x2 x3 x4 x5
          go_wp2_with fail
          exact ⟨⟨t + 1, f, ks, by omega, by congr 1, FIN, J2, J3, J4, J6, I7, J8⟩, by simp [intOf] <;> omega⟩
        | true =>
          have hmt := getD_true hb
          obtain ⟨y, hy, hfy⟩ := HFI.out t hmt
          obtain rfl : x = y := by rw [hx] at hy; exact Option.some.inj hy
          have KO := kkindOf_any (c := k0 + 1) J2.out J4.out hnm (fun p hp => ⟨(hfy p hp).1, by have := (hfy p hp).2; omega⟩) I7.out
          obtain ⟨G, hG⟩ : ∃ G, PCheck.kindOf l x ks = G := ⟨_, rfl⟩
          have h4 := PCheck.kindOf_four (l := l) (x := x) I7.out
          rw [hG] at KO h4
          unfold xpC at KO
          have HKO := Lib.hid KO
          rw [hb] at u1
          by_cases he : G.2 = 0
          · have FIN : Hid (told k0 (kindsF l E m f (t + 1) (ks.set t G.1)) = F) := Lib.hid (by
              have h := I1.out
              rw [kindsF_go hx hmt (by rw [hG]; exact he), hG] at h
              exact h)
            have I9 := Lib.hid (four_set I7.out t h4)
            obtain ⟨g1', g2'⟩ := G
            obtain rfl : g2' = 0 := he
            clear I1 I7 hx hb hmt hy hfy KO hG h4
            go_wp2_with fail
            refine (HKO.out).mono ?_
            rintro _ w6 ⟨rfl, b6⟩
            have K6 := J2.out.on b6
            have k6 := K6.2 t htk
            obtain ⟨u6, f6⟩ := k6
            have K7 := Lib.hid (K6.set htk g1')
            have R7 : Hid (RwB (w6.setCell ⟨w3.heap.size, t, none⟩ (.int .i64 g1')) w1.heap.size (k0 + 1) m) := Lib.hid ((J3.out.on b6).far (by show w3.heap.size ≠ w1.heap.size; omega) _)
            have M7 : Hid (MapOf (w6.setCell ⟨w3.heap.size, t, none⟩ (.int .i64 g1')) w2.heap.size ln (bound l)) := Lib.hid ((J4.out.on b6).far (by show w2.heap.size ≠ w3.heap.size; omega) _)
            have B7 : Hid (Below w.heap.size w (w6.setCell ⟨w3.heap.size, t, none⟩ (.int .i64 g1'))) := Lib.hid ((below_step J6.out b6).setCell (by show w.heap.size ≤ w3.heap.size; omega) _)
            have s6 : w3.heap.size < w6.heap.size := Nat.lt_of_lt_of_le J8.out b6.size
            have S7 : Hid (w3.heap.size < (w6.setCell ⟨w3.heap.size, t, none⟩ (.int .i64 g1')).heap.size) := Lib.hid (by simp only [World.size_setCell]; exact s6)
            clear b6 K6 HKO J2 J3 J4 J6 J8 u1 x0 x1 x2 x3 x4 x5 hs5
            go_wp2_with fail
            exact ⟨⟨t + 1, f, ks.set t g1', by omega, by congr 1, FIN, K7, R7, M7, B7, I9, S7⟩, by simp [intOf] <;> omega⟩
          · obtain ⟨g1', g2'⟩ := G
            have FIN : Hid ((0, t, g2') = F) := Lib.hid (by
              have h := I1.out
              rw [kindsF_err hx hmt (by rw [hG]; exact he), hG, told_err he] at h
              exact h)
            have he1 : ((g2' : Int) == 0) = false := by
              rw [beq_eq_false_iff_ne]
              have : g2' ≠ 0 := he
              omega
            have he2 : ((g2' : Int) != 0) = true := by
              rw [bne_iff_ne]
              have : g2' ≠ 0 := he
              omega
            clear I1 I7 hx hb hmt hy hfy KO hG h4 he
            go_wp2_with fail
            refine (HKO.out).mono ?_
            rintro _ w6 ⟨rfl, b6⟩
            have B6 := Lib.hid (below_step J6.out b6)
            clear b6 HKO J2 J3 J4 J6 J8 u1 x0 x1 x2 x3 x4 x5 hs5
            go_wp2_with fail
            rw [← HQ.out, ← FIN.out]
            exact ⟨rfl, B6.out⟩
end Go.Proofs.YtdkcdgjpcojdfaaGreatDoor
