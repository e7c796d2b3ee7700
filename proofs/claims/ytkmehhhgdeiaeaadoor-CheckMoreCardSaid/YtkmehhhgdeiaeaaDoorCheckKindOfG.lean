/-
  What the landed check answers: the kind of one expression, by the kinds of its parts and of the names.
-/
import Derived.Test.YtkmehhhgdeiaeaaDoorCheckFirstG
namespace Go.Proofs.YtkmehhhgdeiaeaaDoor
open Go.RowKit
open PCheck (Xp Bd bound parts at0 Four)

theorem make_rowK (L : Nat) (h : L ≤ 1000) (W : World) :
    (Instr.makeSlice 49 (.int .i64 (L : Int)) (.int .i64 (L : Int))).run Tryd.prog W = .ok (.slice (some ⟨W.heap.size, 0, none⟩) L L) (W.alloc (.cells (madeCells #[.int .i64 0] L) 3)) :=
  run_make_row' (P := Tryd.prog) 49 3 (.int .i64 0) 8 Tryd.underlying49 (by kernel_rfl) rfl .i64 .i64 L (by omega) (by omega) W
/-- A row of kinds in a block of its own. -/
def RwK (w : World) (H N : Nat) (l : List Int) : Prop := l.length = N ∧ ∀ t, t < N → w.cell? ⟨H, t, none⟩ = some (.int .i64 (l.getD t 0)) ∧ w.frozen? ⟨H, t, none⟩ = false
theorem made_rwK (w : World) (L : Nat) : RwK (w.alloc (.cells (madeCells #[.int .i64 0] L) 3)) w.heap.size L (List.replicate L 0) := by
  have e : madeCells #[.int .i64 0] L = (List.replicate L (Value.int .i64 0)).toArray := by
    apply Array.ext'; simp [madeCells, Nat.mod_one, List.map_const']
  rw [e]
  have h := Box.new w 3 (List.replicate L (Value.int .i64 0))
  refine ⟨List.length_replicate, fun t ht => ?_⟩
  have hv : (List.replicate L (Value.int .i64 0))[t]? = some (.int .i64 0) := by simp [ht]
  have h0 : (List.replicate L (0 : Int)).getD t 0 = 0 := by simp [List.getD, ht]
  rw [h0]
  exact ⟨h.c t hv, h.f t hv⟩
theorem RwK.on {w w' : World} {H N : Nat} {l : List Int} (h : RwK w H N l) (hb : Below w.heap.size w w') : RwK w' H N l :=
  ⟨h.1, fun t ht => ⟨(hb.cell (World.block_lt_of_cell? w _ (h.2 t ht).1)).trans (h.2 t ht).1, (hb.frozen (p := ⟨H, t, none⟩) (World.block_lt_of_cell? w _ (h.2 t ht).1)).trans (h.2 t ht).2⟩⟩
theorem RwK.set {w : World} {H N : Nat} {l : List Int} (h : RwK w H N l) {t : Nat} (ht : t < N) (z : Int) : RwK (w.setCell ⟨H, t, none⟩ (.int .i64 z)) H N (l.set t z) := by
  refine ⟨by rw [List.length_set]; exact h.1, fun s hs => ⟨?_, by rw [box_frozen_set]; exact (h.2 s hs).2⟩⟩
  by_cases e : s = t
  · subst e
    rw [World.cell?_setCell_same _ _ _ (h.2 s hs).1]
    simp [List.getD, h.1, hs]
  · rw [World.cell?_setCell_other _ _ _ _ (by intro c; simp only [Addr.mk.injEq] at c; omega), (h.2 s hs).1]
    simp only [List.getD, List.getElem?_set_ne (Ne.symm e)]
theorem RwK.far {w : World} {H N : Nat} {l : List Int} (h : RwK w H N l) {p : Addr} (hp : p.block ≠ H) (v : Value) : RwK (w.setCell p v) H N l :=
  ⟨h.1, fun s hs => ⟨by rw [World.cell?_setCell_far _ _ _ _ hp]; exact (h.2 s hs).1, by rw [box_frozen_set]; exact (h.2 s hs).2⟩⟩
theorem four_at0 {ks : List Int} (h : ∀ j, Four (ks.getD j 0)) (p : List Int) (i : Nat) : Four (at0 ks p i) := by
  unfold PCheck.at0
  cases p[i]? with
  | none => exact .inl rfl
  | some q => exact h _
theorem kindOf_none {l : List Bd} {x : Xp} {ks : List Int} (h : x.op = PCheck.nameS) (hb : bound l x.name = none) : PCheck.kindOf l x ks = (0, 5) := by unfold PCheck.kindOf; rw [if_pos h, hb]
theorem kindOf_name0 {l : List Bd} {x : Xp} {ks : List Int} (h : x.op = PCheck.nameS) (hb : bound l x.name = some 0) : PCheck.kindOf l x ks = (0, 7) := by unfold PCheck.kindOf; rw [if_pos h, hb]; rfl
theorem kindOf_name {l : List Bd} {x : Xp} {ks : List Int} (h : x.op = PCheck.nameS) {z : Int} (hb : bound l x.name = some z) (hz : z ≠ 0) : PCheck.kindOf l x ks = (z, 0) := by unfold PCheck.kindOf; rw [if_pos h, hb]; exact if_neg hz
theorem kindOf_other0 {l : List Bd} {x : Xp} {ks : List Int} (h : x.op ≠ PCheck.nameS) (hb : PCheck.kindBy x.op (at0 ks (parts x) 0) (at0 ks (parts x) 1) (at0 ks (parts x) 2) = 0) : PCheck.kindOf l x ks = (0, 7) := by unfold PCheck.kindOf; rw [if_neg h, hb]; rfl
theorem kindOf_other {l : List Bd} {x : Xp} {ks : List Int} (h : x.op ≠ PCheck.nameS) {z : Int} (hb : PCheck.kindBy x.op (at0 ks (parts x) 0) (at0 ks (parts x) 1) (at0 ks (parts x) 2) = z) (hz : z ≠ 0) : PCheck.kindOf l x ks = (z, 0) := by unfold PCheck.kindOf; rw [if_neg h, hb]; exact if_neg hz
/-- What the three kinds are behind t rounds. -/
def ofV (ks P : List Int) (t : Nat) : List Value := [.int .i64 (if 0 < t then at0 ks P 0 else 0), .int .i64 (if 1 < t then at0 ks P 1 else 0), .int .i64 (if 2 < t then at0 ks P 2 else 0)]
theorem ofV_len (ks P : List Int) (t : Nat) : (ofV ks P t).length = 3 := rfl
theorem ofV_at (ks P : List Int) {t : Nat} (h : t < 3) : (ofV ks P t)[t]? = some (.int .i64 0) := by
  rcases (by omega : t = 0 ∨ t = 1 ∨ t = 2) with rfl | rfl | rfl <;> rfl
theorem ofV_set {ks P : List Int} {t pn : Nat} (h : t < 3) (hp : P[t]? = some (pn : Int)) : (ofV ks P t).set t (.int .i64 (ks.getD pn 0)) = ofV ks P (t + 1) := by
  have e : at0 ks P t = ks.getD pn 0 := by unfold PCheck.at0; rw [hp]; rfl
  rw [← e]
  rcases (by omega : t = 0 ∨ t = 1 ∨ t = 2) with rfl | rfl | rfl <;> rfl
theorem ofV_end (ks P : List Int) : ofV ks P P.length = [.int .i64 (at0 ks P 0), .int .i64 (at0 ks P 1), .int .i64 (at0 ks P 2)] := by
  have z : ∀ i, ¬ i < P.length → at0 ks P i = 0 := fun i hi => by unfold PCheck.at0; rw [List.getElem?_eq_none (by omega)]
  unfold ofV
  congr 1
  · by_cases e : 0 < P.length
    · rw [if_pos e]
    · rw [if_neg e, z 0 e]
  congr 1
  · by_cases e : 1 < P.length
    · rw [if_pos e]
    · rw [if_neg e, z 1 e]
  congr 1
  · by_cases e : 2 < P.length
    · rw [if_pos e]
    · rw [if_neg e, z 2 e]
/-- What is answered. -/
def KoAns (k : Int × Nat) (w : World) (e : Ending) (w' : World) : Prop := e = .returned (.tuple #[.int .i64 k.1, .int .i64 (k.2 : Int)]) ∧ Below w.heap.size w w'
set_option maxHeartbeats 3200000 in
set_option maxRecDepth 100000 in
theorem kkindOf_any {w : World} {x : Xp} {ks : List Int} {l : List Bd} {K n N Bm c : Nat} (hK : RwK w K n ks) (hM : MapOf w Bm N (bound l)) (hx : x.name.length ≤ maxLen) (hp : ∀ p ∈ parts x, 0 ≤ p ∧ p < (n : Int)) (h4 : ∀ j, Four (ks.getD j 0)) :
    Calls Tryd.prog 18 #[.agg (xpC x).toArray, .slice (some ⟨K, 0, none⟩) n c, .map (some Bm)] w (KoAns (PCheck.kindOf l x ks) w) := by
  obtain ⟨F, hF⟩ : ∃ F, PCheck.kindOf l x ks = F := ⟨_, rfl⟩
  rw [hF]
  obtain ⟨Q, hQ⟩ : ∃ Q, KoAns F w = Q := ⟨_, rfl⟩
  rw [hQ]
  have HQ := Lib.hid hQ
  obtain ⟨op, nm, vl, ya, yb, yc⟩ := x
  obtain ⟨w1, hw1, XB, b1⟩ : ∃ w1, w.alloc (.cells #[.string ⟨op.toArray⟩, .string ⟨nm.toArray⟩, .int .i64 vl, .int .i64 ya, .int .i64 yb, .int .i64 yc] 45) = w1 ∧ Box w1 w.heap.size [.string ⟨op.toArray⟩, .string ⟨nm.toArray⟩, .int .i64 vl, .int .i64 ya, .int .i64 yb, .int .i64 yc] ∧ Below w.heap.size w w1 := ⟨_, rfl, Box.new _ _ [.string ⟨op.toArray⟩, .string ⟨nm.toArray⟩, .int .i64 vl, .int .i64 ya, .int .i64 yb, .int .i64 yc], (Below.refl _ _).alloc (Nat.le_refl _) _⟩
  have HW1 := Lib.hid hw1; have B1 := Lib.hid b1
  have M1 := hM.on b1
  have HK := Lib.hid (hK.on b1)
  have HXB := Lib.hid XB
  obtain ⟨x0, x1, x2, x3, x4, x5⟩ := box6 XB
  have hsx := XB.1
  clear hw1 b1 XB hM hK hQ
  unfold xpC
  by_cases hop : op = PCheck.nameS
  · subst hop
    unfold PCheck.nameS at *
    cases hb : bound l nm with
    | none =>
      have HF : Hid (((0 : Int), 5) = F) := Lib.hid ((kindOf_none rfl hb).symm.trans hF)
      have hlk := mapOf_miss M1 nm hx hb
      clear M1 hF hx hp hb
      go_enter Tryd.func18, Tryd.ntmps18
      go_upto_region 1 with fail
      rw [HW1.out]
      go_wp2_with fail
      rw [← HQ.out, ← HF.out]
      exact ⟨rfl, B1.out⟩
    | some z =>
      have hlk := mapOf_hit M1 nm hx hb
      by_cases hz : z = 0
      · subst hz
        have HF : Hid (((0 : Int), 7) = F) := Lib.hid ((kindOf_name0 rfl hb).symm.trans hF)
        clear M1 hF hx hp hb
        go_enter Tryd.func18, Tryd.ntmps18
        go_upto_region 1 with fail
        rw [HW1.out]
        go_wp2_with fail
        rw [← HQ.out, ← HF.out]
        exact ⟨rfl, B1.out⟩
      · have hzb : (z == 0) = false := by rw [beq_eq_false_iff_ne]; exact hz
        have HF : Hid ((z, 0) = F) := Lib.hid ((kindOf_name rfl hb hz).symm.trans hF)
        clear M1 hF hx hp hb hz
        go_enter Tryd.func18, Tryd.ntmps18
        go_upto_region 1 with fail
        rw [HW1.out]
        go_wp2_with fail
        rw [← HQ.out, ← HF.out]
        exact ⟨rfl, B1.out⟩
  · have e4 := kb_ne (op := op) (l := [PCheck.nameS]) (by simpa using hop) (s := [110, 97, 109, 101]) (by decide)
    obtain ⟨P0, hP0⟩ : ∃ P0, parts ⟨op, nm, vl, ya, yb, yc⟩ = P0 := ⟨_, rfl⟩
    have hpl := parts_few3 ⟨op, nm, vl, ya, yb, yc⟩
    have h0 := fun hb => (kindOf_other0 (l := l) (x := ⟨op, nm, vl, ya, yb, yc⟩) (ks := ks) hop hb).symm.trans hF
    have h1 := fun z hb hz => (kindOf_other (l := l) (x := ⟨op, nm, vl, ya, yb, yc⟩) (ks := ks) (z := z) hop hb hz).symm.trans hF
    rw [hP0] at hp hpl h0 h1
    have HF := Lib.hid (And.intro h0 h1)
    clear h0 h1
    obtain ⟨w2, hw2, TB, b2⟩ : ∃ w2, w1.alloc (.cells #[.int .i64 0, .int .i64 0, .int .i64 0] 65) = w2 ∧ Box w2 w1.heap.size [.int .i64 0, .int .i64 0, .int .i64 0] ∧ Below w1.heap.size w1 w2 := ⟨_, rfl, Box.new _ _ [.int .i64 0, .int .i64 0, .int .i64 0], (Below.refl _ _).alloc (Nat.le_refl _) _⟩
    have HW2 := Lib.hid hw2
    have HKT : Hid (∀ s, s < n → K < w1.heap.size) := Lib.hid (fun s hs => World.block_lt_of_cell? w1 _ (HK.out.2 s hs).1)
    have KP := kparts_any ⟨op, nm, vl, ya, yb, yc⟩ w2
    rw [hP0] at KP
    unfold xpC at KP
    have HKP := Lib.hid KP
    have XB2 := HXB.out.on b2
    have K2 := Lib.hid (HK.out.on b2)
    have B2 := Lib.hid (below_step B1.out b2)
    have HTB := Lib.hid TB
    have hs2 := TB.1
    clear HK x1 x2 x3 x4 x5 KP hP0
    obtain ⟨y0, y1, y2, y3, y4, y5⟩ := box6 XB2
    have XB2h := Lib.hid XB2
    have hsx2 := XB2.1
    clear XB2 hw2 b2 TB B1 HXB
    go_enter Tryd.func18, Tryd.ntmps18
    go_upto_region 1 with fail
    rw [HW1.out]
    go_upto_region 8 with fail
    rw [HW2.out]
    clear HW1 HW2 x0
    go_wp2_with fail
    refine (HKP.out).mono ?_
    rintro _ w3 ⟨PA, pc, rfl, hpt, b3⟩
    have P3 : Hid (PtI w3 (w1.heap.size + 1) PA P0) := Lib.hid (by
      rcases hpt with h | ⟨g, h1, h2, h3⟩
      · exact .inl h
      · exact .inr ⟨g, h1, Nat.le_trans hs2 h2, h3⟩)
    have K3 := Lib.hid (K2.out.on b3)
    have B3 := Lib.hid (below_step B2.out b3)
    have T3 : Hid (Box w3 w1.heap.size (ofV ks P0 0)) := Lib.hid (HTB.out.on b3)
    have C3 : Hid (w3.cell? ⟨w.heap.size, 0, none⟩ = some (.string ⟨op.toArray⟩)) := Lib.hid ((b3.cell (p := ⟨w.heap.size, 0, none⟩) hsx2).trans y0)
    clear hpt b3 K2 B2 HTB XB2h HKP y0 y1 y2 y3 y4 y5 hsx2 hs2
    go_wp2_with fail
    go_loopw [30] (fun q wx => ∃ t : Nat, t ≤ P0.length ∧ q = .int .i64 t ∧ Hid (Box wx w1.heap.size (ofV ks P0 t)) ∧ Hid (PtI wx (w1.heap.size + 1) PA P0) ∧ Hid (RwK wx K n ks) ∧ Hid (wx.cell? ⟨w.heap.size, 0, none⟩ = some (.string ⟨op.toArray⟩)) ∧ Hid (Below w.heap.size w wx)) (fun q _ => P0.length - (intOf q).toNat)
    case atStart => exact ⟨0, Nat.zero_le _, rfl, T3, P3, K3, C3, B3⟩
    case round =>
      clear P3 K3 B3 T3 C3
      obtain ⟨t, ht, rfl, I1, I2, I3, I4, I5⟩ := hrel
      by_cases htl : t < P0.length
      · obtain ⟨pb, rfl, cp⟩ := ptI_at I2.out htl
        obtain ⟨p, hp1⟩ : ∃ p, P0[t] = p := ⟨_, rfl⟩
        rw [hp1] at cp
        have hsp := World.block_lt_of_cell? wr _ cp
        have hpp := hp p (by rw [← hp1]; exact List.getElem_mem _)
        obtain ⟨pn, rfl⟩ : ∃ pn : Nat, p = pn := ⟨p.toNat, by omega⟩
        have hpn : pn < n := by omega
        have gp : (pn : Int) < (n : Int) := by omega
        have g0 : (0 : Int) ≤ (pn : Int) := by omega
        have ht3 : t < 3 := by omega
        have gt3 : (t : Int) < 3 := by omega
        have gtl : (t : Int) < (P0.length : Int) := by omega
        obtain ⟨ck, -⟩ := I3.out.2 pn hpn
        have ct := I1.out.c t (ofV_at ks P0 ht3)
        have ft := I1.out.f t (ofV_at ks P0 ht3)
        have hst := I1.out.1
        have hsk := World.block_lt_of_cell? wr _ ck
        have hK := HKT.out pn hpn
        have hPt : P0[t]? = some (pn : Int) := by rw [List.getElem?_eq_getElem htl, hp1]
        have hset := I1.out.set t (by rw [ofV_len]; exact ht3) (.int .i64 (ks.getD pn 0))
        rw [ofV_set ht3 hPt] at hset
        have J1 := Lib.hid hset
        have J2 := Lib.hid (I2.out.far (Nat.lt_succ_self _) t (.int .i64 (ks.getD pn 0)))
        have J3 : Hid (RwK (wr.setCell ⟨w1.heap.size, t, none⟩ (.int .i64 (ks.getD pn 0))) K n ks) := Lib.hid (I3.out.far (by show w1.heap.size ≠ K; omega) _)
        have J4 : Hid ((wr.setCell ⟨w1.heap.size, t, none⟩ (.int .i64 (ks.getD pn 0))).cell? ⟨w.heap.size, 0, none⟩ = some (.string ⟨op.toArray⟩)) := Lib.hid (by rw [World.cell?_setCell_far _ _ _ _ (by show w1.heap.size ≠ w.heap.size; omega)]; exact I4.out)
        have J5 := Lib.hid (I5.out.setCell (p := ⟨w1.heap.size, t, none⟩) (Nat.le_of_lt hsx) (.int .i64 (ks.getD pn 0)))
        clear hset hPt I1 I2 I3 I4 I5 hp1 hp hpp HF HKT
        go_wp2_with fail
        exact ⟨⟨t + 1, by omega, by congr 1, J1, J2, J3, J4, J5⟩, by simp [intOf]; omega⟩
      · obtain rfl : t = P0.length := by omega
        have TB := I1.out
        rw [ofV_end] at TB
        obtain ⟨t0, t1, t2⟩ := box3 TB
        have ca := I4.out
        have hsT := TB.1
        have hsV := World.block_lt_of_cell? wr _ ca
        have KB := Lib.hid (kkindBy_any (op := op) (c := at0 ks P0 2) (four_at0 h4 P0 0) (four_at0 h4 P0 1) wr)
        obtain ⟨z, hz⟩ : ∃ z, PCheck.kindBy op (at0 ks P0 0) (at0 ks P0 1) (at0 ks P0 2) = z := ⟨_, rfl⟩
        rw [hz] at KB
        by_cases hz0 : z = 0
        · have HF2 := Lib.hid (HF.out.1 (by rw [← hz0]; exact hz))
          subst hz0
          clear TB I1 I2 I3 I4 HF HKT hp hz ht htl
          go_wp2_with fail
          refine (KB.out).mono ?_
          rintro _ w9 ⟨rfl, b9⟩
          have B9 := Lib.hid (below_step I5.out b9)
          clear b9 I5 KB t0 t1 t2 ca hsT hsV
          go_wp2_with fail
          rw [← HQ.out, ← HF2.out]
          exact ⟨rfl, B9.out⟩
        · have HF2 := Lib.hid (HF.out.2 z hz hz0)
          have hzb : (z == 0) = false := by rw [beq_eq_false_iff_ne]; exact hz0
          clear TB I1 I2 I3 I4 HF HKT hp hz ht htl hz0
          go_wp2_with fail
          refine (KB.out).mono ?_
          rintro _ w9 ⟨rfl, b9⟩
          have B9 := Lib.hid (below_step I5.out b9)
          clear b9 I5 KB t0 t1 t2 ca hsT hsV
          go_wp2_with fail
          rw [← HQ.out, ← HF2.out]
          exact ⟨rfl, B9.out⟩
end Go.Proofs.YtkmehhhgdeiaeaaDoor
