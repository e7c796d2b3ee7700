/-
  What the landed check answers: Kind, over any program and bindings.
-/
import Derived.Test.YtkmehhhgdeiaeaaDoorCheckKindOfG
import Derived.Test.YtkmehhhgdeiaeaaDoorCM
namespace Go.Proofs.YtkmehhhgdeiaeaaDoor
open Go.RowKit
open PCheck (Xp Bd bound parts at0 Four madeF made kindsF told Fine)

theorem SlX.take {α : Type} {R : Rec α} {w : World} {A : Option Addr} {n k : Nat} {l : List α} (h : SlX R w A n l) (hk : k ≤ n) : SlX R w A k (l.take k) := by
  obtain ⟨h1, h2⟩ := h
  refine ⟨by rw [List.length_take]; omega, ?_⟩
  rcases h2 with h2 | ⟨b, off, h3, h4⟩
  · exact .inl (by omega)
  · exact .inr ⟨b, off, h3, fun i hi j v e => by
      have hi2 : i < k ∧ i < l.length := by rw [List.length_take] at hi; omega
      rw [List.getElem_take] at e
      exact h4 i hi2.2 j v e⟩
theorem madeF_take (E : List Xp) (k : Nat) : ∀ (i : Nat) (m : List Bool), i ≤ k → madeF (E.take k) i m = madeF E i m
  | 0, _, _ => rfl
  | i + 1, m, h => by
    have e : (E.take k)[i]? = E[i]? := by rw [List.getElem?_take, if_pos (by omega)]
    unfold madeF
    rw [e]
    cases E[i]? with
    | none => rfl
    | some x =>
      simp only []
      rw [madeF_take E k i m (by omega)]
      cases PCheck.mark i (parts x) m with
      | none => rfl
      | some m' => simp only []; rw [madeF_take E k i m' (by omega)]
theorem made_take {E : List Xp} {r : Nat} : made (E.take (r + 1)) r = made E r := by
  unfold PCheck.made
  exact madeF_take E (r + 1) (r + 1) _ (Nat.le_refl _)
theorem RwB.far {w : World} {H N : Nat} {l : List Bool} (h : RwB w H N l) {p : Addr} (hp : p.block ≠ H) (v : Value) : RwB (w.setCell p v) H N l :=
  ⟨h.1, fun s hs => ⟨by rw [World.cell?_setCell_far _ _ _ _ hp]; exact (h.2 s hs).1, by rw [box_frozen_set]; exact (h.2 s hs).2⟩⟩
theorem MapOf.far {w : World} {b n : Nat} {f : List UInt8 → Option Int} (h : MapOf w b n f) {p : Addr} (hp : b ≠ p.block) (v : Value) : MapOf (w.setCell p v) b n f := by
  obtain ⟨D, ⟨es, clock, h1, h2⟩, h3⟩ := h
  exact ⟨D, ⟨es, clock, (Below.heap_setCell _ _ _ _ hp).trans h1, h2⟩, h3⟩
theorem four_set {ks : List Int} (h : ∀ j, Four (ks.getD j 0)) (i : Nat) {z : Int} (hz : Four z) : ∀ j, Four ((ks.set i z).getD j 0) := fun j => by
  by_cases e : i = j
  · subst e
    by_cases hi : i < ks.length
    · simp only [List.getD, List.getElem?_set_self hi]; exact hz
    · rw [List.set_eq_of_length_le (by omega)]; exact h i
  · simp only [List.getD, List.getElem?_set_ne e]; exact h j
theorem four_rep (n : Nat) : ∀ j, Four ((List.replicate n (0 : Int)).getD j 0) := fun j => .inl (by
  simp only [List.getD, List.getElem?_replicate]
  by_cases h : j < n
  · rw [if_pos h]; rfl
  · rw [if_neg h]; rfl)
theorem made_fine {E : List Xp} {r : Nat} (hr : r < E.length) {m : List Bool} (h : made E r = some m) : m.length = r + 1 ∧ ∀ k, m[k]? = some true → ∃ x, E[k]? = some x ∧ Fine k x := by
  have hs := PCheck.made_spec hr
  rw [h] at hs
  exact ⟨hs.1, fun k hk => hs.2.2 k ((hs.2.1 k).1 hk)⟩
theorem kind_out {E : List Xp} {l : List Bd} {r : Int} (h : r < 0 ∨ (E.length : Int) ≤ r) : PCheck.kind E r l = (0, 0, 1) := by unfold PCheck.kind; rw [if_pos h]
theorem kind_unmade {E : List Xp} {l : List Bd} {r : Nat} (h : r < E.length) (hm : made E r = none) : PCheck.kind E r l = (0, 0, 1) := by
  unfold PCheck.kind; rw [if_neg (by omega), Int.toNat_natCast, hm]
theorem kind_made {E : List Xp} {l : List Bd} {r : Nat} (h : r < E.length) {m : List Bool} (hm : made E r = some m) : PCheck.kind E r l = told r (kindsF l E m (r + 1) 0 (List.replicate (r + 1) 0)) := by
  unfold PCheck.kind; rw [if_neg (by omega), Int.toNat_natCast, hm]
theorem kindsF_skip {l : List Bd} {E : List Xp} {m : List Bool} {f i : Nat} {ks : List Int} {x : Xp} (hx : E[i]? = some x) (h : m.getD i false = false) : kindsF l E m (f + 1) i ks = kindsF l E m f (i + 1) ks := by
  have e : m[i]? ≠ some true := fun e => by rw [List.getD, e] at h; cases h
  conv => lhs; unfold kindsF
  rw [hx]
  show (if m[i]? = some true then _ else _) = _
  rw [if_neg e]
theorem kindsF_go {l : List Bd} {E : List Xp} {m : List Bool} {f i : Nat} {ks : List Int} {x : Xp} (hx : E[i]? = some x) (h : m[i]? = some true) (hk : (PCheck.kindOf l x ks).2 = 0) : kindsF l E m (f + 1) i ks = kindsF l E m f (i + 1) (ks.set i (PCheck.kindOf l x ks).1) := by
  conv => lhs; unfold kindsF
  rw [hx]
  show (if m[i]? = some true then (if (PCheck.kindOf l x ks).2 = 0 then _ else _) else _) = _
  rw [if_pos h, if_pos hk]
theorem kindsF_err {l : List Bd} {E : List Xp} {m : List Bool} {f i : Nat} {ks : List Int} {x : Xp} (hx : E[i]? = some x) (h : m[i]? = some true) (hk : (PCheck.kindOf l x ks).2 ≠ 0) : kindsF l E m (f + 1) i ks = ((PCheck.kindOf l x ks).2, i, ks) := by
  conv => lhs; unfold kindsF
  rw [hx]
  show (if m[i]? = some true then (if (PCheck.kindOf l x ks).2 = 0 then _ else _) else _) = _
  rw [if_pos h, if_neg hk]
theorem told_err {r e i : Nat} {ks : List Int} (h : e ≠ 0) : told r (e, i, ks) = (0, i, e) := by
  cases e with
  | zero => exact absurd rfl h
  | succ e => rfl
theorem getD_true {m : List Bool} {i : Nat} (h : m.getD i false = true) : m[i]? = some true := by
  unfold List.getD at h
  cases e : m[i]? with
  | none => rw [e] at h; cases h
  | some b => rw [e] at h; exact congrArg some h
/-- What is answered. -/
def KdAns (F : Int × Nat × Nat) (w : World) (e : Ending) (w' : World) : Prop := e = .returned (.tuple #[.int .i64 F.1, .int .i64 (F.2.1 : Int), .int .i64 (F.2.2 : Int)]) ∧ Below w.heap.size w w'
set_option maxHeartbeats 6400000 in
set_option maxRecDepth 100000 in
theorem kKind_any {w : World} {TA LA A : Option Addr} {tn tc n c ln lc : Nat} {E : List Xp} {l : List Bd} {r : Int} (hE : SlX xpR w A n E) (hc : n ≤ c) (hL : SlX bdR w LA ln l) (hn : n ≤ 1000) (hl : ln ≤ 1000) (hxn : ∀ x ∈ E, x.name.length ≤ maxLen) (hln : ∀ b ∈ l, b.name.length ≤ maxLen) :
    Calls Tryd.prog 12 #[.agg #[.slice TA tn tc, .slice A n c], .int .i64 r, .slice LA ln lc] w (KdAns (PCheck.kind E r l) w) := by
  obtain ⟨F, hF⟩ : ∃ F, PCheck.kind E r l = F := ⟨_, rfl⟩
  rw [hF]
  obtain ⟨Q, hQ⟩ : ∃ Q, KdAns F w = Q := ⟨_, rfl⟩
  rw [hQ]
  have HQ := Lib.hid hQ
  obtain ⟨w1, hw1, XB, b1⟩ : ∃ w1, w.alloc (.cells #[.slice TA tn tc, .slice A n c] 25) = w1 ∧ Box w1 w.heap.size [.slice TA tn tc, .slice A n c] ∧ Below w.heap.size w w1 := ⟨_, rfl, Box.new _ _ [.slice TA tn tc, .slice A n c], (Below.refl _ _).alloc (Nat.le_refl _) _⟩
  have HW1 := Lib.hid hw1; have B1 := Lib.hid b1
  have x0 : w1.cell? ⟨w.heap.size, 0, none⟩ = some (.slice TA tn tc) := XB.c 0 rfl
  have x1 : w1.cell? ⟨w.heap.size, 1, none⟩ = some (.slice A n c) := XB.c 1 rfl
  have hsx := XB.1
  have HE0 := Lib.hid hE; have HE := Lib.hid (hE.on b1); have HL := Lib.hid (hL.on b1)
  have hEl : E.length = n := hE.1
  clear hw1 b1 XB hE hL hQ
  by_cases h0 : r < 0
  · have HF : Hid (((0 : Int), 0, 1) = F) := Lib.hid ((kind_out (.inl h0)).symm.trans hF)
    clear hF
    go_enter Tryd.func12, Tryd.ntmps12
    go_upto_region 1 with fail
    rw [HW1.out]
    go_wp2_with fail
    rw [← HQ.out, ← HF.out]
    exact ⟨rfl, B1.out⟩
  by_cases h1 : (n : Int) ≤ r
  · have HF : Hid (((0 : Int), 0, 1) = F) := Lib.hid ((kind_out (.inr (by omega))).symm.trans hF)
    clear hF
    go_enter Tryd.func12, Tryd.ntmps12
    go_upto_region 1 with fail
    rw [HW1.out]
    go_wp2_with fail
    rw [← HQ.out, ← HF.out]
    exact ⟨rfl, B1.out⟩
  obtain ⟨k0, rfl⟩ : ∃ k0 : Nat, r = k0 := ⟨r.toNat, by omega⟩
  have hkn : k0 < n := by omega
  obtain ⟨ab, aoff, hAe, -⟩ := HE.out.at hkn
  subst hAe
  have KM := kmade_any (c := c) (HE.out.take (k := k0 + 1) (by omega)) (by omega) (by omega)
  rw [Nat.add_sub_cancel, made_take] at KM
  have HKM := Lib.hid KM
  have g1 : (k0 : Int) + 1 ≤ (c : Int) := by omega
  have g2 : (0 : Int) ≤ (k0 : Int) + 1 := by omega
  have g3 : (k0 : Int) + 1 ≤ 1000 := by omega
  have g4 : ((k0 : Int) + 1).toNat = k0 + 1 := by omega
  clear KM
  go_enter Tryd.func12, Tryd.ntmps12
  go_upto_region 1 with fail
  rw [HW1.out]
  go_upto_region 4 with fail
  clear HW1
  cases hmd : made E k0 with
  | none =>
    have HF : Hid (((0 : Int), 0, 1) = F) := Lib.hid ((kind_unmade (by omega) hmd).symm.trans hF)
    rw [hmd] at HKM
    clear hF x0 x1
    go_wp2_with fail
    refine (HKM.out).mono ?_
    rintro _ w2 ⟨b2, rfl⟩
    have B2 := Lib.hid (below_step B1.out b2)
    clear b2 HKM
    go_wp2_with fail
    rw [← HQ.out, ← HF.out]
    exact ⟨rfl, B2.out⟩
  | some m =>
    have HF : Hid (told k0 (kindsF l E m (k0 + 1) 0 (List.replicate (k0 + 1) 0)) = F) := Lib.hid ((kind_made (by omega) hmd).symm.trans hF)
    obtain ⟨hml, hfine⟩ := made_fine (by omega) hmd
    have HFI := Lib.hid hfine
    rw [hmd] at HKM
    clear hF x0 x1 hmd hfine
    go_wp2_with fail
    refine (HKM.out).mono ?_
    rintro _ w2 ⟨b2, rfl, hrw⟩
    have B2 := Lib.hid (below_step B1.out b2)
    have L2 := HL.out.on b2
    have R2 := Lib.hid hrw
    have hs2 : w1.heap.size < w2.heap.size := World.block_lt_of_cell? w2 _ (hrw.2 0 (by omega)).1
    have KF := Lib.hid (kfirst_any (c := lc) L2 hl hln)
    clear b2 HKM HE HL L2 hrw hln
    go_wp2_with fail
    refine (KF.out).mono ?_
    rintro _ w3 ⟨rfl, hmap, b3⟩
    have B3 := Lib.hid (below_step B2.out b3)
    have R3 := R2.out.on b3
    have hs3 : w2.heap.size < w3.heap.size := hmap.lt
    have ek : ((k0 + 1 : Nat) : Int) = (k0 : Int) + 1 := by omega
    have hmk := fun W => make_rowK (k0 + 1) (by omega) W
    rw [ek] at hmk
    obtain ⟨w4, hw4, K4, b4⟩ : ∃ w4, w3.alloc (.cells (madeCells #[.int .i64 0] (k0 + 1)) 3) = w4 ∧ Hid (RwK w4 w3.heap.size (k0 + 1) (List.replicate (k0 + 1) 0)) ∧ Below w3.heap.size w3 w4 := ⟨_, rfl, Lib.hid (made_rwK w3 (k0 + 1)), (Below.refl _ _).alloc (Nat.le_refl _) _⟩
    have B4 := Lib.hid (below_step B3.out b4)
    have R4 := Lib.hid (R3.on b4)
    have M4 := Lib.hid (hmap.on b4)
    clear b3 b4 R3 hmap R2 B1 B2 B3 KF
    go_upto_region 9 with fail
    clear hw4 hmk
    have S4 : Hid (w3.heap.size < w4.heap.size) := Lib.hid (World.block_lt_of_cell? w4 _ (K4.out.2 0 (by omega)).1)
    have D4 := Lib.hid (four_rep (k0 + 1))
    go_wp2_with fail
    go_loopw [46] (fun q wx => ∃ (t f : Nat) (ks : List Int), t + f = k0 + 1 ∧ q = .int .i64 t ∧ Hid (told k0 (kindsF l E m f t ks) = F) ∧ Hid (RwK wx w3.heap.size (k0 + 1) ks) ∧ Hid (RwB wx w1.heap.size (k0 + 1) m) ∧ Hid (MapOf wx w2.heap.size ln (bound l)) ∧ Hid (Below w.heap.size w wx) ∧ Hid (∀ j, Four (ks.getD j 0)) ∧ Hid (w3.heap.size < wx.heap.size)) (fun q _ => k0 + 1 - (intOf q).toNat)
    case atStart => exact ⟨0, k0 + 1, _, by omega, rfl, HF, K4, R4, M4, B4, D4, S4⟩
    case round =>
      clear HF K4 R4 M4 B4 D4 S4
      obtain ⟨t, f, ks, htf, rfl, I1, I2, I3, I4, I6, I7, I8⟩ := hrel
      cases f with
      | zero =>
        obtain rfl : t = k0 + 1 := by omega
        have ck := (I2.out.2 k0 (by omega)).1
        have hsk := I8.out
        have hK : k0 < ks.length := by rw [I2.out.1]; omega
        obtain ⟨z, hz⟩ : ∃ z, ks.getD k0 0 = z := ⟨_, rfl⟩
        have FIN : Hid ((z, 0, 0) = F) := Lib.hid (by rw [← hz]; exact I1.out)
        rw [hz] at ck
        clear I1 I2 I3 I4 I7 I8 hz hK
        go_wp2_with fail
        rw [← HQ.out, ← FIN.out]
        exact ⟨rfl, I6.out⟩
      | succ f =>
        have htk : t < k0 + 1 := by omega
        have gtk : (t : Int) < (k0 : Int) + 1 := by omega
        have htE : t < E.length := by omega
        have hx := List.getElem?_eq_getElem htE
        obtain ⟨x, hxx⟩ : ∃ x, E[t] = x := ⟨_, rfl⟩
        have hmem : x ∈ E := by rw [← hxx]; exact List.getElem_mem _
        have hnm := hxn x hmem
        obtain ⟨b', off', hbe, hcx⟩ := (HE0.out.on I6.out).at (show t < n by omega)
        cases hbe
        have hd := hcx t htE
        rw [hxx] at hd hx
        have c0 : wr.cell? ⟨ab, aoff + t * 6, none⟩ = some (.string ⟨x.op.toArray⟩) := by simpa [xpR] using hd 0 _ rfl
        have c1 : wr.cell? ⟨ab, aoff + t * 6 + 1, none⟩ = some (.string ⟨x.name.toArray⟩) := hd 1 _ rfl
        have c2 : wr.cell? ⟨ab, aoff + t * 6 + 2, none⟩ = some (.int .i64 x.value) := hd 2 _ rfl
        have c3 : wr.cell? ⟨ab, aoff + t * 6 + 3, none⟩ = some (.int .i64 x.a) := hd 3 _ rfl
        have c4 : wr.cell? ⟨ab, aoff + t * 6 + 4, none⟩ = some (.int .i64 x.b) := hd 4 _ rfl
        have c5 : wr.cell? ⟨ab, aoff + t * 6 + 5, none⟩ = some (.int .i64 x.c) := hd 5 _ rfl
        have hsb := World.block_lt_of_cell? wr _ c0
        obtain ⟨w5, hw5, XB, b5⟩ : ∃ w5, wr.alloc (.cells #[.string ⟨x.op.toArray⟩, .string ⟨x.name.toArray⟩, .int .i64 x.value, .int .i64 x.a, .int .i64 x.b, .int .i64 x.c] 45) = w5 ∧ Box w5 wr.heap.size [.string ⟨x.op.toArray⟩, .string ⟨x.name.toArray⟩, .int .i64 x.value, .int .i64 x.a, .int .i64 x.b, .int .i64 x.c] ∧ Below wr.heap.size wr w5 := ⟨_, rfl, Box.new _ _ [.string ⟨x.op.toArray⟩, .string ⟨x.name.toArray⟩, .int .i64 x.value, .int .i64 x.a, .int .i64 x.b, .int .i64 x.c], (Below.refl _ _).alloc (Nat.le_refl _) _⟩
        have J2 := Lib.hid (I2.out.on b5); have J3 := Lib.hid (I3.out.on b5); have J4 := Lib.hid (I4.out.on b5)
        have J6 : Hid (Below w.heap.size w w5) := Lib.hid (below_step I6.out (b5.mono (Nat.le_refl _)))
        have J8 : Hid (w3.heap.size < w5.heap.size) := Lib.hid (Nat.lt_of_lt_of_le I8.out b5.size)
        obtain ⟨u1, -⟩ := J3.out.2 t htk
        obtain ⟨x0, x1, x2, x3, x4, x5⟩ := box6 XB
        have hs5 := XB.1
        clear XB b5 hd hcx I2 I3 I4 I6 I8 hxx hmem
        go_upto_region 12 with fail
        clear hw5 c0 c1 c2 c3 c4 c5 hsb
        cases hb : m.getD t false with
        | false =>
          have FIN : Hid (told k0 (kindsF l E m f (t + 1) ks) = F) := Lib.hid (by rw [← kindsF_skip hx hb]; exact I1.out)
          rw [hb] at u1
          clear I1 hx hb x0 x1 x2 x3 x4 x5
          go_wp2_with fail
          exact ⟨⟨t + 1, f, ks, by omega, by congr 1, FIN, J2, J3, J4, J6, I7, J8⟩, by simp [intOf] <;> omega⟩
        | true =>
          have hmt := getD_true hb
          obtain ⟨y, hy, hfy⟩ := HFI.out t hmt
          obtain rfl : x = y := by rw [hx] at hy; exact Option.some.inj hy
          have KO := kkindOf_any (c := k0 + 1) J2.out J4.out hnm (fun p hp => ⟨(hfy p hp).1, by have := (hfy p hp).2; omega⟩) I7.out
          obtain ⟨G, hG⟩ : ∃ G, PCheck.kindOf l x ks = G := ⟨_, rfl⟩
          have h4 := PCheck.kindOf_four (l := l) (x := x) I7.out
          rw [hG] at KO h4
          unfold xpC at KO
          have HKO := Lib.hid KO
          rw [hb] at u1
          by_cases he : G.2 = 0
          · have FIN : Hid (told k0 (kindsF l E m f (t + 1) (ks.set t G.1)) = F) := Lib.hid (by
              have h := I1.out
              rw [kindsF_go hx hmt (by rw [hG]; exact he), hG] at h
              exact h)
            have I9 := Lib.hid (four_set I7.out t h4)
            obtain ⟨g1', g2'⟩ := G
            obtain rfl : g2' = 0 := he
            clear I1 I7 hx hb hmt hy hfy KO hG h4
            go_wp2_with fail
            refine (HKO.out).mono ?_
            rintro _ w6 ⟨rfl, b6⟩
            have K6 := J2.out.on b6
            have k6 := K6.2 t htk
            obtain ⟨u6, f6⟩ := k6
            have K7 := Lib.hid (K6.set htk g1')
            have R7 : Hid (RwB (w6.setCell ⟨w3.heap.size, t, none⟩ (.int .i64 g1')) w1.heap.size (k0 + 1) m) := Lib.hid ((J3.out.on b6).far (by show w3.heap.size ≠ w1.heap.size; omega) _)
            have M7 : Hid (MapOf (w6.setCell ⟨w3.heap.size, t, none⟩ (.int .i64 g1')) w2.heap.size ln (bound l)) := Lib.hid ((J4.out.on b6).far (by show w2.heap.size ≠ w3.heap.size; omega) _)
            have B7 : Hid (Below w.heap.size w (w6.setCell ⟨w3.heap.size, t, none⟩ (.int .i64 g1'))) := Lib.hid ((below_step J6.out b6).setCell (by show w.heap.size ≤ w3.heap.size; omega) _)
            have s6 : w3.heap.size < w6.heap.size := Nat.lt_of_lt_of_le J8.out b6.size
            have S7 : Hid (w3.heap.size < (w6.setCell ⟨w3.heap.size, t, none⟩ (.int .i64 g1')).heap.size) := Lib.hid (by simp only [World.size_setCell]; exact s6)
            clear b6 K6 HKO J2 J3 J4 J6 J8 u1 x0 x1 x2 x3 x4 x5 hs5
            go_wp2_with fail
            exact ⟨⟨t + 1, f, ks.set t g1', by omega, by congr 1, FIN, K7, R7, M7, B7, I9, S7⟩, by simp [intOf] <;> omega⟩
          · obtain ⟨g1', g2'⟩ := G
            have FIN : Hid ((0, t, g2') = F) := Lib.hid (by
              have h := I1.out
              rw [kindsF_err hx hmt (by rw [hG]; exact he), hG, told_err he] at h
              exact h)
            have he1 : ((g2' : Int) == 0) = false := by
              rw [beq_eq_false_iff_ne]
              have : g2' ≠ 0 := he
              omega
            have he2 : ((g2' : Int) != 0) = true := by
              rw [bne_iff_ne]
              have : g2' ≠ 0 := he
              omega
            clear I1 I7 hx hb hmt hy hfy KO hG h4 he
            go_wp2_with fail
            refine (HKO.out).mono ?_
            rintro _ w6 ⟨rfl, b6⟩
            have B6 := Lib.hid (below_step J6.out b6)
            clear b6 HKO J2 J3 J4 J6 J8 u1 x0 x1 x2 x3 x4 x5 hs5
            go_wp2_with fail
            rw [← HQ.out, ← FIN.out]
            exact ⟨rfl, B6.out⟩
end Go.Proofs.YtkmehhhgdeiaeaaDoor
