/-
  What the document's answer of layer 10 says: the kind of any expression of any program, or the error, and where.
-/
import Derived.Test.YtkmehhhgdeiaeaaDoorRef10OfG
import Derived.Test.YtkmehhhgdeiaeaaDoorRef10MadeG
import Derived.Test.YtkmehhhgdeiaeaaDoorCheckKindG
namespace Go.Proofs.YtkmehhhgdeiaeaaDoor
open Go.RowKit
open PCheck (Xp Bd bound parts at0 Four madeF made kindsF told Fine)

theorem kindOf_of {l : List Bd} {x : Xp} {ks : List Int} : (ofK l x (at0 ks (parts x) 0) (at0 ks (parts x) 1) (at0 ks (parts x) 2) ≠ 0 → PCheck.kindOf l x ks = (ofK l x (at0 ks (parts x) 0) (at0 ks (parts x) 1) (at0 ks (parts x) 2), 0)) ∧
    (ofK l x (at0 ks (parts x) 0) (at0 ks (parts x) 1) (at0 ks (parts x) 2) = 0 → (x.op = PCheck.nameS → bound l x.name = none → PCheck.kindOf l x ks = (0, 5)) ∧ (x.op = PCheck.nameS → (∃ k, bound l x.name = some k) → PCheck.kindOf l x ks = (0, 7)) ∧ (x.op ≠ PCheck.nameS → PCheck.kindOf l x ks = (0, 7))) := by
  by_cases h : x.op = PCheck.nameS
  · cases hb : bound l x.name with
    | none =>
      rw [ofK_none h hb]
      exact ⟨fun e => absurd rfl e, fun _ => ⟨fun _ _ => kindOf_none h hb, fun _ ⟨k, e⟩ => (by cases e), fun e => absurd h e⟩⟩
    | some k =>
      rw [ofK_name h hb]
      exact ⟨fun e => kindOf_name h hb e, fun e => ⟨fun _ e2 => (by cases e2), fun _ _ => kindOf_name0 h (by rw [hb, e]), fun e2 => absurd h e2⟩⟩
  · rw [ofK_other h]
    exact ⟨fun e => kindOf_other h rfl e, fun e => ⟨fun e2 => absurd e2 h, fun e2 => absurd e2 h, fun _ => kindOf_other0 h e⟩⟩
theorem partAt_in {x : Xp} {l : List Int} (hl : parts x = l) {n : Nat} (h : ∀ p ∈ l, 0 ≤ p ∧ p < (n : Int)) {t : Nat} (ht : t < l.length) : 0 ≤ partAt x t ∧ partAt x t < (n : Int) ∧ l[t]? = some (partAt x t) := by
  subst hl
  have h1 := parts_at ht
  have := h _ (List.mem_of_getElem? h1)
  exact ⟨this.1, this.2, h1⟩
set_option maxHeartbeats 12800000 in
set_option maxRecDepth 100000 in
theorem r10kind_any {w : World} {RA LA A : Option Addr} {rn rc n c ln lc : Nat} {E : List Xp} {l : List Bd} {r : Int} (hE : SlX xpR w A n E) (hL : SlX bdR w LA ln l) (hn : n ≤ 1000) (hl : ln ≤ 1000) :
    Calls Tryd.prog 13 #[.agg #[.slice RA rn rc, .slice A n c], .int .i64 r, .slice LA ln lc] w (KdAns (PCheck.kind E r l) w) := by
  obtain ⟨F, hF⟩ : ∃ F, PCheck.kind E r l = F := ⟨_, rfl⟩
  rw [hF]
  obtain ⟨Q, hQ⟩ : ∃ Q, KdAns F w = Q := ⟨_, rfl⟩
  rw [hQ]
  have HQ := Lib.hid hQ
  obtain ⟨L, hLL⟩ : ∃ L, w.heap.size = L := ⟨_, rfl⟩
  obtain ⟨w1, hw1, XB, b1⟩ : ∃ w1, w.alloc (.cells #[.slice RA rn rc, .slice A n c] 31) = w1 ∧ Box w1 w.heap.size [.slice RA rn rc, .slice A n c] ∧ Below w.heap.size w w1 := ⟨_, rfl, Box.new _ _ [.slice RA rn rc, .slice A n c], (Below.refl _ _).alloc (Nat.le_refl _) _⟩
  have hs1 : w1.heap.size = L + 1 := by rw [← hw1, ← hLL]; simp
  have HE0 := Lib.hid hE; have HL0 := Lib.hid hL
  have E1 := hE.on b1
  have hEl : E.length = n := hE.1
  rw [hLL] at XB b1
  have HLL := Lib.hid hLL; have HS1 := Lib.hid hs1
  have HW1 := Lib.hid hw1; have B1 := Lib.hid b1
  obtain ⟨x0, x1⟩ := bx2 XB
  have hsx := XB.1
  have X1 := Lib.hid XB
  clear hw1 b1 XB hE hL hQ
  by_cases hout : r < 0 ∨ (n : Int) ≤ r
  · have HF : Hid (((0 : Int), 0, 1) = F) := Lib.hid ((kind_out (by rw [hEl]; exact hout)).symm.trans hF)
    have KM := Lib.hid (rmade_out (w := w1) (RA := RA) (A := A) (rn := rn) (rc := rc) (c := c) hout)
    clear hF hout E1
    go_enter Tryd.func13, Tryd.ntmps13
    go_upto_region 1 with fail
    rw [HW1.out]
    (try rw [HLL.out])
    go_wp2_with fail
    refine (KM.out).mono ?_
    rintro _ w2 ⟨rfl, b2⟩
    have B2 : Hid (Below L w w2) := Lib.hid (B1.out.trans (b2.mono (by rw [HS1.out]; exact Nat.le_succ _)))
    clear b2 KM
    go_wp2_with fail
    rw [← HQ.out, ← HF.out]
    exact ⟨rfl, by rw [HLL.out]; exact B2.out⟩
  obtain ⟨k0, rfl⟩ : ∃ k0 : Nat, r = k0 := ⟨r.toNat, by omega⟩
  have hkn : k0 < n := by omega
  have KM := rmade_in (RA := RA) (rn := rn) (rc := rc) (c := c) E1 hkn hn
  have HKM := Lib.hid KM
  have g3 : (k0 : Int) + 1 ≤ 1000 := by omega
  have gk : (k0 : Int) < (n : Int) := by omega
  clear KM hout E1
  go_enter Tryd.func13, Tryd.ntmps13
  go_upto_region 1 with fail
  rw [HW1.out]
  (try rw [HLL.out])
  clear HW1
  cases hmd : made E k0 with
  | none =>
    have HF : Hid (((0 : Int), 0, 1) = F) := Lib.hid ((kind_unmade (by omega) hmd).symm.trans hF)
    rw [hmd] at HKM
    clear hF
    go_wp2_with fail
    refine (HKM.out).mono ?_
    rintro _ w2 ⟨b2, rfl⟩
    have B2 : Hid (Below L w w2) := Lib.hid (B1.out.trans (b2.mono (by rw [HS1.out]; exact Nat.le_succ _)))
    clear b2 HKM
    go_wp2_with fail
    rw [← HQ.out, ← HF.out]
    exact ⟨rfl, by rw [HLL.out]; exact B2.out⟩
  | some m =>
    have HF : Hid (told k0 (kindsF l E m (k0 + 1) 0 (List.replicate (k0 + 1) 0)) = F) := Lib.hid ((kind_made (by omega) hmd).symm.trans hF)
    obtain ⟨hml, hfine⟩ := made_fine (by omega) hmd
    have HFI := Lib.hid hfine
    rw [hmd] at HKM
    clear hF hmd hfine
    go_wp2_with fail
    refine (HKM.out).mono ?_
    rintro _ w2 ⟨b2, rfl, hrw⟩
    rw [HS1.out] at b2 hrw
    (try rw [HS1.out])
    have B2 : Hid (Below L w w2) := Lib.hid (B1.out.trans (b2.mono (Nat.le_succ _)))
    have X2 := Lib.hid (X1.out.keep b2 (Nat.lt_succ_self L))
    have hs2 : L + 2 < w2.heap.size := World.block_lt_of_cell? w2 _ (hrw.2 0 (by omega)).1
    have R2 := Lib.hid hrw
    have ek : ((k0 + 1 : Nat) : Int) = (k0 : Int) + 1 := by omega
    have hmk := fun W => make_rowK (k0 + 1) (by omega) W
    rw [ek] at hmk
    obtain ⟨w4, hw4, K4, b4⟩ : ∃ w4, w2.alloc (.cells (madeCells #[.int .i64 0] (k0 + 1)) 3) = w4 ∧ Hid (RwK w4 w2.heap.size (k0 + 1) (List.replicate (k0 + 1) 0)) ∧ Below w2.heap.size w2 w4 := ⟨_, rfl, Lib.hid (made_rwK w2 (k0 + 1)), (Below.refl _ _).alloc (Nat.le_refl _) _⟩
    have B4 : Hid (Below L w w4) := Lib.hid (B2.out.trans (b4.mono (by omega)))
    have R4 := Lib.hid (R2.out.on b4)
    have X4 := Lib.hid (X2.out.on b4)
    obtain ⟨KB, hKB⟩ : ∃ KB, w2.heap.size = KB := ⟨_, rfl⟩
    rw [hKB] at K4 hs2
    have HW4 := Lib.hid hw4; have HKB := Lib.hid hKB
    clear b2 b4 hrw R2 B1 B2 X1 X2 HKM x0 x1 hsx hw4 hKB ek
    go_upto_region 5 with fail
    rw [HW4.out]
    (try rw [HKB.out])
    clear HW4 hmk
    have S4 : Hid (KB < w4.heap.size) := Lib.hid (World.block_lt_of_cell? w4 _ (K4.out.2 0 (by omega)).1)
    have D4 := Lib.hid (four_rep (k0 + 1))
    go_wp2_with fail
    go_loopw [12] (fun q wx => ∃ (t f : Nat) (ks : List Int), t + f = k0 + 1 ∧ q = .int .i64 t ∧ Hid (told k0 (kindsF l E m f t ks) = F) ∧ Hid (RwK wx KB (k0 + 1) ks) ∧ Hid (RwB wx (L + 1 + 1) (k0 + 1) m) ∧ Hid (Box wx L [.slice RA rn rc, .slice A n c]) ∧ Hid (Below L w wx) ∧ Hid (∀ j, Four (ks.getD j 0)) ∧ Hid (KB < wx.heap.size)) (fun q _ => k0 + 1 - (intOf q).toNat)
    case atStart => exact ⟨0, k0 + 1, _, by omega, rfl, HF, K4, R4, X4, B4, D4, S4⟩
    case round =>
      clear HF K4 R4 X4 B4 D4 S4
      obtain ⟨t, f, ks, htf, rfl, I1, I2, I3, I4, I6, I7, I8⟩ := hrel
      cases f with
      | zero =>
        obtain rfl : t = k0 + 1 := by omega
        have ck := (I2.out.2 k0 (by omega)).1
        have hsk := I8.out
        obtain ⟨z, hz⟩ : ∃ z, ks.getD k0 0 = z := ⟨_, rfl⟩
        have FIN : Hid ((z, 0, 0) = F) := Lib.hid (by rw [← hz]; exact I1.out)
        rw [hz] at ck
        clear I1 I2 I3 I4 I7 I8 hz
        go_wp2_with fail
        rw [← HQ.out, ← FIN.out]
        exact ⟨rfl, by rw [HLL.out]; exact I6.out⟩
      | succ f =>
        have htk : t < k0 + 1 := by omega
        have gtk : (t : Int) < (k0 : Int) + 1 := by omega
        have gtk2 : (t : Int) ≤ (k0 : Int) := by omega
        have gtn : (t : Int) < (n : Int) := by omega
        have htE : t < E.length := by omega
        have hx := List.getElem?_eq_getElem htE
        obtain ⟨x, hxx⟩ : ∃ x, E[t] = x := ⟨_, rfl⟩
        rw [hxx] at hx
        obtain ⟨u1, -⟩ := I3.out.2 t htk
        have hsu := World.block_lt_of_cell? wr _ u1
        cases hb : m.getD t false with
        | false =>
          have FIN : Hid (told k0 (kindsF l E m f (t + 1) ks) = F) := Lib.hid (by rw [← kindsF_skip hx hb]; exact I1.out)
          rw [hb] at u1
          clear I1 hx hb hxx
          go_wp2_with fail
          exact ⟨⟨t + 1, f, ks, by omega, by congr 1, FIN, I2, I3, I4, I6, I7, I8⟩, by simp [intOf] <;> omega⟩
        | true =>
          have hmt := getD_true hb
          obtain ⟨y, hy, hfy⟩ := HFI.out t hmt
          obtain rfl : x = y := by rw [hx] at hy; exact Option.some.inj hy
          rw [hb] at u1
          obtain ⟨b, off, rfl, hc⟩ := (HE0.out.on (by rw [HLL.out]; exact I6.out)).at (show t < n by omega)
          have hd := hc t htE
          rw [hxx] at hd
          have c0 : wr.cell? ⟨b, off + t * 6, none⟩ = some (.string ⟨x.op.toArray⟩) := by simpa [xpR] using hd 0 _ rfl
          have c1 : wr.cell? ⟨b, off + t * 6 + 1, none⟩ = some (.string ⟨x.name.toArray⟩) := hd 1 _ rfl
          have c2 : wr.cell? ⟨b, off + t * 6 + 2, none⟩ = some (.int .i64 x.value) := hd 2 _ rfl
          have c3 : wr.cell? ⟨b, off + t * 6 + 3, none⟩ = some (.int .i64 x.a) := hd 3 _ rfl
          have c4 : wr.cell? ⟨b, off + t * 6 + 4, none⟩ = some (.int .i64 x.b) := hd 4 _ rfl
          have c5 : wr.cell? ⟨b, off + t * 6 + 5, none⟩ = some (.int .i64 x.c) := hd 5 _ rfl
          have hsb := World.block_lt_of_cell? wr _ c0
          obtain ⟨y0, y1⟩ := bx2 I4.out
          have hsy := I4.out.1
          obtain ⟨X, hX⟩ : ∃ X, wr.heap.size = X := ⟨_, rfl⟩
          obtain ⟨w5, hw5, YB, b5⟩ : ∃ w5, wr.alloc (.cells #[.string ⟨x.op.toArray⟩, .string ⟨x.name.toArray⟩, .int .i64 x.value, .int .i64 x.a, .int .i64 x.b, .int .i64 x.c] 51) = w5 ∧ Box w5 wr.heap.size (xpC x) ∧ Below wr.heap.size wr w5 := ⟨_, rfl, Box.new _ _ (xpC x), (Below.refl _ _).alloc (Nat.le_refl _) _⟩
          have hs5 : w5.heap.size = X + 1 := by rw [← hw5, ← hX]; simp
          obtain ⟨w6, hw6, TB, b6⟩ : ∃ w6, w5.alloc (.cells #[.int .i64 0, .int .i64 0, .int .i64 0] 65) = w6 ∧ Box w6 w5.heap.size [.int .i64 0, .int .i64 0, .int .i64 0] ∧ Below w5.heap.size w5 w6 := ⟨_, rfl, Box.new _ _ [.int .i64 0, .int .i64 0, .int .i64 0], (Below.refl _ _).alloc (Nat.le_refl _) _⟩
          have hKX : KB < X := by rw [← hX]; exact I8.out
          have J2 := Lib.hid ((I2.out.on b5).on b6); have J3 := Lib.hid ((I3.out.on b5).on b6); have J4 := Lib.hid ((I4.out.on b5).on b6)
          have J6 : Hid (Below L w w6) := Lib.hid ((I6.out.trans (b5.mono (by omega))).trans (b6.mono (by omega)))
          have Y6 := Lib.hid (YB.on b6)
          rw [hX] at Y6
          rw [hs5] at TB
          obtain ⟨l0, hl0⟩ : ∃ l0, parts x = l0 := ⟨_, rfl⟩
          have T6 : Hid (Box w6 (X + 1) (ofV ks l0 0)) := Lib.hid TB
          have hmany := Lib.hid (fun w => rmany_any x.op w)
          have hpart := Lib.hid (fun w t => rpart_any x t w)
          unfold xpC at hpart
          have hpl := parts_few3 x
          have hpm := parts_many x
          rw [hl0] at hpl hpm
          have hpa : Hid (∀ q, q < l0.length → 0 ≤ partAt x q ∧ partAt x q < ((k0 + 1 : Nat) : Int) ∧ l0[q]? = some (partAt x q)) := Lib.hid (fun q hq => partAt_in hl0 (fun p hp => ⟨(hfy p (by rw [hl0]; exact hp)).1, by have := (hfy p (by rw [hl0]; exact hp)).2; omega⟩) hq)
          rw [← hpm] at hmany
          have gl : (l0.length : Int) ≤ 3 := by omega
          have KO := Lib.hid (kindOf_of (l := l) (x := x) (ks := ks))
          rw [hl0] at KO
          have H4 := Lib.hid (PCheck.kindOf_four (l := l) (x := x) I7.out)
          have HW5 := Lib.hid hw5; have HW6 := Lib.hid hw6; have HX := Lib.hid hX; have HS5 := Lib.hid hs5
          have HXE := Lib.hid hx; have HMT := Lib.hid hmt; have HL00 := Lib.hid hl0
          clear hc hd hxx I2 I3 I4 I6 I8 hw5 hw6 hX YB TB b5 b6 hpm hx hl0 hb hmt hy hfy hs5
          go_upto_region 10 with fail
          rw [HW5.out]
          (try rw [HX.out])
          clear HW5 c0 c1 c2 c3 c4 c5 hsb y0 y1 hsy u1 hsu
          go_upto_region 11 with fail
          rw [HW6.out]
          (try rw [HS5.out])
          clear HW6
          go_wp2_with fail
          go_loopw [15] (fun q wx => ∃ s : Nat, s ≤ l0.length ∧ q = .int .i64 s ∧ Hid (Box wx (X + 1) (ofV ks l0 s)) ∧ Hid (RwK wx KB (k0 + 1) ks) ∧ Hid (RwB wx (L + 1 + 1) (k0 + 1) m) ∧ Hid (Box wx L [.slice RA rn rc, .slice (some ⟨b, off, none⟩) n c]) ∧ Hid (Below L w wx) ∧ Hid (Box wx X (xpC x))) (fun q _ => l0.length - (intOf q).toNat)
          case atStart => exact ⟨0, Nat.zero_le _, rfl, T6, J2, J3, J4, J6, Y6⟩
          case round =>
            clear T6 J2 J3 J4 J6 Y6
            obtain ⟨s, hs, rfl, K1, K2, K3, K4, K5, K6⟩ := hrel
            obtain ⟨z0, z1, z2, z3, z4, z5⟩ := box6 K6.out
            have hsz := K6.out.1
            by_cases hsl : s < l0.length
            · have gs : (s : Int) < (l0.length : Int) := by omega
              have gs3 : (s : Int) < 3 := by omega
              have hs3 : s < 3 := by omega
              obtain ⟨hp0, hp1, hp2⟩ := hpa.out s hsl
              have KP := Lib.hid (fun w => hpart.out w s)
              obtain ⟨p, hp⟩ : ∃ p, partAt x s = p := ⟨_, rfl⟩
              rw [hp] at KP hp0 hp1 hp2
              obtain ⟨pn, rfl⟩ : ∃ pn : Nat, p = pn := ⟨p.toNat, by omega⟩
              have hpn : pn < k0 + 1 := by omega
              have gp1 : (pn : Int) < (k0 : Int) + 1 := by omega
              have gp0 : ¬ (pn : Int) < 0 := by omega
              have HP2 := Lib.hid hp2
              clear hp0 hp1 hp2 hp
              go_wp2_with fail
              refine (hmany.out _).mono ?_
              rintro _ _ ⟨rfl, rfl⟩
              go_wp2_with fail
              refine (KP.out _).mono ?_
              rintro _ w7 ⟨rfl, b7⟩
              have M1 := K1.out.on b7; have M2 := K2.out.on b7
              have M3 := Lib.hid (K3.out.on b7); have M4 := Lib.hid (K4.out.on b7); have M6 := Lib.hid (K6.out.on b7)
              have M5 : Hid (Below L w w7) := Lib.hid (K5.out.trans (b7.mono (by omega)))
              have hs7 := b7.size
              obtain ⟨v1, -⟩ := M2.2 pn hpn
              have ct := M1.c s (ofV_at ks l0 hs3)
              have ft := M1.f s (ofV_at ks l0 hs3)
              have hst := M1.1
              have hset := M1.set s (by rw [ofV_len]; exact hs3) (.int .i64 (ks.getD pn 0))
              rw [ofV_set hs3 HP2.out] at hset
              have N1 := Lib.hid hset
              have N2 : Hid (RwK (w7.setCell ⟨X + 1, s, none⟩ (.int .i64 (ks.getD pn 0))) KB (k0 + 1) ks) := Lib.hid (M2.far (by show X + 1 ≠ KB; omega) _)
              have N3 : Hid (RwB (w7.setCell ⟨X + 1, s, none⟩ (.int .i64 (ks.getD pn 0))) (L + 1 + 1) (k0 + 1) m) := Lib.hid (M3.out.far (by show X + 1 ≠ L + 1 + 1; omega) _)
              have N4 := Lib.hid (M4.out.far (p := ⟨X + 1, s, none⟩) (by show X + 1 ≠ L; omega) (.int .i64 (ks.getD pn 0)))
              have N5 := Lib.hid (M5.out.setCell (p := ⟨X + 1, s, none⟩) (by show L ≤ X + 1; omega) (.int .i64 (ks.getD pn 0)))
              have N6 := Lib.hid (M6.out.far (p := ⟨X + 1, s, none⟩) (by show X + 1 ≠ X; omega) (.int .i64 (ks.getD pn 0)))
              clear b7 M1 M2 M3 M4 M5 M6 z0 z1 z2 z3 z4 z5 KP K1 K2 K3 K4 K5 K6 hset
              go_wp2_with fail
              exact ⟨⟨s + 1, by omega, by congr 1, N1, N2, N3, N4, N5, N6⟩, by simp [intOf]; omega⟩
            · obtain rfl : s = l0.length := by omega
              have TB := K1.out
              rw [ofV_end] at TB
              obtain ⟨t0, t1, t2⟩ := box3 TB
              have hsT := TB.1
              have OF := Lib.hid (rof_any (x := x) (c := at0 ks l0 2) (lc := lc) (HL0.out.on (by rw [HLL.out]; exact K5.out)) hl (four_at0 I7.out l0 0) (four_at0 I7.out l0 1))
              obtain ⟨z, hz⟩ : ∃ z, ofK l x (at0 ks l0 0) (at0 ks l0 1) (at0 ks l0 2) = z := ⟨_, rfl⟩
              rw [hz] at OF KO
              unfold xpC at OF
              clear TB hz hs hsl
              go_wp2_with fail
              refine (hmany.out _).mono ?_
              rintro _ _ ⟨rfl, rfl⟩
              go_wp2_with fail
              refine (OF.out).mono ?_
              rintro _ w7 ⟨rfl, b7⟩
              have M2 := K2.out.on b7
              have M3 := K3.out.on b7; have M4 := K4.out.on b7; have M6 := K6.out.on b7
              have M5 : Below L w w7 := K5.out.trans (b7.mono (by omega))
              have hs7 := b7.size
              obtain ⟨v1, f1⟩ := M2.2 t htk
              have hsv := World.block_lt_of_cell? w7 _ v1
              obtain ⟨w8, hw8, N2, N3, N4, N5, N6, hs8⟩ : ∃ w8, w7.setCell ⟨KB, t, none⟩ (.int .i64 z) = w8 ∧ RwK w8 KB (k0 + 1) (ks.set t z) ∧ RwB w8 (L + 1 + 1) (k0 + 1) m ∧ Box w8 L [.slice RA rn rc, .slice (some ⟨b, off, none⟩) n c] ∧ Below L w w8 ∧ Box w8 X (xpC x) ∧ w8.heap.size = w7.heap.size :=
                ⟨_, rfl, M2.set htk z, M3.far (by show KB ≠ L + 1 + 1; omega) _, M4.far (by show KB ≠ L; omega) _, M5.setCell (by show L ≤ KB; omega) _, M6.far (by show KB ≠ X; omega) _, by simp only [World.size_setCell]⟩
              obtain ⟨q1, -⟩ := N2.2 t htk
              have hzt : (ks.set t z).getD t 0 = z := by simp [List.getD, (show t < ks.length by rw [K2.out.1]; exact htk)]
              rw [hzt] at q1
              obtain ⟨z0', z1', z2', z3', z4', z5'⟩ := box6 N6
              have hsz8 := N6.1
              have hsq := World.block_lt_of_cell? w8 _ q1
              have HW8 := Lib.hid hw8
              have N2 := Lib.hid N2; have N3 := Lib.hid N3; have N4 := Lib.hid N4; have N5 := Lib.hid N5
              clear b7 M2 M3 M4 M5 M6 K1 K2 K3 K4 K5 K6 t0 t1 t2 hsT OF hw8 hzt N6
              go_upto_region 16 with fail
              rw [HW8.out]
              clear z0 z1 z2 z3 z4 z5 hsz v1 f1 hsv HW8
              by_cases hz0 : z = 0
              · subst hz0
                obtain ⟨o1, o2, o3⟩ := KO.out.2 rfl
                have ER : Hid (∀ e, PCheck.kindOf l x ks = (0, e) → e ≠ 0 → ((0 : Int), t, e) = F) := Lib.hid (fun e h he => by
                  have h1 := I1.out
                  rw [kindsF_err HXE.out HMT.out (by rw [h]; exact he), h, told_err he] at h1
                  exact h1)
                have HO1 := Lib.hid o1; have HO2 := Lib.hid o2; have HO3 := Lib.hid o3
                clear I1 KO o1 o2 o3 N2 N3 N4 H4
                by_cases hnm : x.op = PCheck.nameS
                · have hne : (x.op == [110, 97, 109, 101]) = true := by rw [beq_iff_eq]; exact hnm
                  have FD := Lib.hid (rfind_any (c := lc) (s := x.name) (HL0.out.on (by rw [HLL.out]; exact N5.out)) hl)
                  have HNM := Lib.hid hnm
                  clear hnm
                  go_wp2_with fail
                  refine (FD.out).mono ?_
                  rintro _ w9 ⟨z9, rfl, hz9, b9⟩
                  have B9 : Hid (Below L w w9) := Lib.hid (N5.out.trans (b9.mono (by omega)))
                  clear b9 FD q1 hsq z0' z1' z2' z3' z4' z5' hsz8 N5
                  rcases hz9 with ⟨rfl, hbd⟩ | ⟨i9, hi9, rfl, hbd⟩
                  · have FIN := Lib.hid (ER.out 5 (HO1.out HNM.out hbd) (by decide))
                    clear hbd ER HO1 HO2 HO3
                    go_wp2_with fail
                    rw [← HQ.out, ← FIN.out]
                    exact ⟨rfl, by rw [HLL.out]; exact B9.out⟩
                  · have FIN := Lib.hid (ER.out 7 (HO2.out HNM.out ⟨_, hbd⟩) (by decide))
                    have g9 : ¬ (i9 : Int) < 0 := by omega
                    clear hbd ER HO1 HO2 HO3 hi9
                    go_wp2_with fail
                    rw [← HQ.out, ← FIN.out]
                    exact ⟨rfl, by rw [HLL.out]; exact B9.out⟩
                · have hne : (x.op == [110, 97, 109, 101]) = false := by rw [beq_eq_false_iff_ne]; exact hnm
                  have FIN := Lib.hid (ER.out 7 (HO3.out hnm) (by decide))
                  clear hnm ER HO1 HO2 HO3
                  go_wp2_with fail
                  rw [← HQ.out, ← FIN.out]
                  exact ⟨rfl, by rw [HLL.out]; exact N5.out⟩
              · have hzb : (z == 0) = false := by rw [beq_eq_false_iff_ne]; exact hz0
                have hko := KO.out.1 hz0
                have FIN : Hid (told k0 (kindsF l E m f (t + 1) (ks.set t z)) = F) := Lib.hid (by
                  have h1 := I1.out
                  rw [kindsF_go HXE.out HMT.out (by rw [hko]), hko] at h1
                  exact h1)
                have I9 := Lib.hid (four_set I7.out t (z := z) (by have h := H4.out; rw [hko] at h; exact h))
                have S9 : Hid (KB < w8.heap.size) := Lib.hid (by omega)
                clear I1 KO hko H4 hz0
                go_wp2_with fail
                exact ⟨⟨t + 1, f, ks.set t z, by omega, by congr 1, FIN, N2, N3, N4, N5, I9, S9⟩, by simp [intOf] <;> omega⟩
end Go.Proofs.YtkmehhhgdeiaeaaDoor
