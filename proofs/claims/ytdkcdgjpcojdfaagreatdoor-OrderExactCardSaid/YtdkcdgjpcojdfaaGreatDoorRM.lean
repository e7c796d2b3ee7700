/-
  A block of the call's own of two cells: what its cells hold, and when both are stored.
  What the document's answer of layer 10 says: which expressions the root is made of.
-/
import Derived.Test.YtdkcdgjpcojdfaaGreatDoorBK
import Derived.Test.YtdkcdgjpcojdfaaGreatDoorCP
import Derived.Test.YtdkcdgjpcojdfaaGreatDoorCM
import Derived.Deep.DeepCutAuto

namespace Go.Proofs.YtdkcdgjpcojdfaaGreatDoor
open Go.RowKit

theorem bx2 {w : World} {H : Nat} {a b : Value} (h : Box w H [a, b]) : w.cell? ⟨H, 0, none⟩ = some a ∧ w.cell? ⟨H, 1, none⟩ = some b := ⟨h.c 0 rfl, h.c 1 rfl⟩
theorem st2x {w : World} {H : Nat} {a b : Value} (h : Box w H [a, b]) (a' b' : Value) :
    ∃ w', ((w.setCell ⟨H, 0, none⟩ a').setCell ⟨H, 1, none⟩ b') = w' ∧ Box w' H [a', b'] ∧ Only H w w' :=
  ⟨_, rfl, (h.set 0 (by simp) a').set 1 (by simp) b', (((Only.refl H w).set 0 a').set 1 b')⟩
end Go.Proofs.YtdkcdgjpcojdfaaGreatDoor

namespace Go.Proofs.YtdkcdgjpcojdfaaGreatDoor
open Go.RowKit
open PCheck (Xp madeF made parts mark)

def RMadeAns (F : Option (List Bool)) (n : Nat) (w : World) (e : Ending) (w' : World) : Prop := Below w.heap.size w w' ∧ match F with
  | none => e = .returned (.tuple #[.slice none 0 0, .bool false])
  | some m => e = .returned (.tuple #[.slice (some ⟨w.heap.size + 1, 0, none⟩) n n, .bool true]) ∧ RwB w' (w.heap.size + 1) n m
theorem set_other {m : List Bool} {i p : Nat} (h : p ≠ i) (b : Bool) : (m.set p b).getD i false = m.getD i false := by
  simp only [List.getD, List.getElem?_set_ne h]
def OutAns (w : World) (e : Ending) (w' : World) : Prop := e = .returned (.tuple #[.slice none 0 0, .bool false]) ∧ Below w.heap.size w w'
set_option maxHeartbeats 6400000 in
set_option maxRecDepth 100000 in
theorem rmade_out {w : World} {RA A : Option Addr} {rn rc n c : Nat} {r : Int} (h : r < 0 ∨ (n : Int) ≤ r) :
    Calls Tryz.prog 39 #[.agg #[.slice RA rn rc, .slice A n c], .int .i64 r] w (OutAns w) := by
  obtain ⟨Q, hQ⟩ : ∃ Q, OutAns w = Q := ⟨_, rfl⟩
  rw [hQ]
  have HQ := Lib.hid hQ
  clear hQ
  obtain ⟨w1, hw1, XB, b1⟩ : ∃ w1, w.alloc (.cells #[.slice RA rn rc, .slice A n c] 26) = w1 ∧ Box w1 w.heap.size [.slice RA rn rc, .slice A n c] ∧ Below w.heap.size w w1 := ⟨_, rfl, Box.new _ _ [.slice RA rn rc, .slice A n c], (Below.refl _ _).alloc (Nat.le_refl _) _⟩
  have HW1 := Lib.hid hw1; have B1 := Lib.hid b1
  obtain ⟨x0, x1⟩ := bx2 XB
  have hsx := XB.1
  clear hw1 b1 XB
  rcases h with h | h
  · go_enter Tryz.func39, Tryz.ntmps39
    go_upto_region 1 with fail
    rw [HW1.out]
    go_wp2_with fail
    rw [← HQ.out]
    exact ⟨rfl, B1.out⟩
  · have h0 : ¬ r < 0 := by omega
    go_enter Tryz.func39, Tryz.ntmps39
    go_upto_region 1 with fail
    rw [HW1.out]
    go_wp2_with fail
    rw [← HQ.out]
    exact ⟨rfl, B1.out⟩
set_option maxHeartbeats 6400000 in
set_option maxRecDepth 100000 in
theorem rmade_in {w : World} {RA A : Option Addr} {rn rc n c r : Nat} {E : List Xp} (hE : SlX xpR w A n E) (hr : r < n) (h1000 : n ≤ 1000) :
    Calls Tryz.prog 39 #[.agg #[.slice RA rn rc, .slice A n c], .int .i64 (r : Nat)] w (RMadeAns (made E r) (r + 1) w) := by
  obtain ⟨F, hF⟩ : ∃ F, made E r = F := ⟨_, rfl⟩
  rw [hF]
  obtain ⟨Q, hQ⟩ : ∃ Q, RMadeAns F (r + 1) w = Q := ⟨_, rfl⟩
  rw [hQ]
  have hF' : madeF E (r + 1) ((List.replicate (r + 1) false).set r true) = F := by rw [← hF]; rfl
  have HF := Lib.hid hF'; have HQ := Lib.hid hQ
  have hEl : E.length = n := hE.1
  obtain ⟨L, hL⟩ : ∃ L, w.heap.size = L := ⟨_, rfl⟩
  obtain ⟨w1, hw1, XB, b1⟩ : ∃ w1, w.alloc (.cells #[.slice RA rn rc, .slice A n c] 26) = w1 ∧ Box w1 w.heap.size [.slice RA rn rc, .slice A n c] ∧ Below w.heap.size w w1 := ⟨_, rfl, Box.new _ _ [.slice RA rn rc, .slice A n c], (Below.refl _ _).alloc (Nat.le_refl _) _⟩
  have hs1 : w1.heap.size = L + 1 := by rw [← hw1, ← hL]; simp
  have HE := Lib.hid hE
  have gr : (r : Int) < (n : Int) := by omega
  have grn : ¬ n ≤ r := by omega
  have gr0 : ¬ (r : Int) < 0 := by omega
  have gn : (n : Int) ≤ 1000 := by omega
  have hmk := fun W => make_rowB (r + 1) (by omega) W
  have ek : ((r + 1 : Nat) : Int) = (r : Int) + 1 := by omega
  rw [ek] at hmk
  obtain ⟨w2, hw2, UR, b2⟩ : ∃ w2, w1.alloc (.cells (madeCells #[.bool false] (r + 1)) 4) = w2 ∧ RwB w2 w1.heap.size (r + 1) (List.replicate (r + 1) false) ∧ Below w1.heap.size w1 w2 := ⟨_, rfl, made_rwB w1 (r + 1), (Below.refl _ _).alloc (Nat.le_refl _) _⟩
  rw [hL] at XB b1
  have XB2 := XB.on b2
  obtain ⟨x0, x1⟩ := bx2 XB
  have hsx := XB.1
  rw [hs1] at UR b2
  have HL := Lib.hid hL; have HS1 := Lib.hid hs1
  have HW1 := Lib.hid hw1; have HW2 := Lib.hid hw2
  have B2 : Hid (Below L w w2) := Lib.hid (b1.trans (b2.mono (Nat.le_succ _)))
  have U2 := Lib.hid UR; have X2 := Lib.hid XB2
  have S2 : Hid (L + 1 < w2.heap.size) := Lib.hid (World.block_lt_of_cell? w2 _ (UR.2 0 (by omega)).1)
  clear hw1 hw2 b1 b2 XB XB2 UR hF hF' hQ hE hs1 hL ek
  go_enter Tryz.func39, Tryz.ntmps39
  go_upto_region 1 with fail
  rw [HW1.out]
  (try rw [HL.out])
  go_upto_region 4 with fail
  rw [HW2.out]
  (try rw [HS1.out])
  clear HW1 HW2 x0 x1 hsx hmk
  go_wp2_with fail
  go_loopw [7] (fun i wr => ∃ (k : Nat) (z : Int) (m : List Bool), k ≤ r + 1 ∧ z = (k : Int) - 1 ∧ i = .int .i64 z ∧ Hid (RwB wr (L + 1) (r + 1) m) ∧ Hid (madeF E k (if k = r + 1 then m.set r true else m) = F) ∧ Hid (Box wr L [.slice RA rn rc, .slice A n c]) ∧ Hid (Below L w wr) ∧ Hid (L + 1 < wr.heap.size)) (fun i _ => (intOf i + 1).toNat)
  case atStart => exact ⟨r + 1, (r : Int), _, Nat.le_refl _, by omega, rfl, U2, (show Hid _ from Lib.hid (by rw [if_pos rfl]; exact HF.out)), X2, B2, S2⟩
  case round =>
    clear U2 HF X2 B2 S2
    obtain ⟨k, z, m, hk, hz, rfl, I1, I2, I3, I4, I5⟩ := hrel
    cases k with
    | zero =>
      have gz : z < 0 := by omega
      have FIN : Hid (some m = F) := Lib.hid (by have h := I2.out; rw [if_neg (by omega)] at h; exact h)
      clear I2 hz
      go_wp2_with fail
      rw [← HQ.out, ← FIN.out]
      exact ⟨by rw [HL.out]; exact I4.out, by rw [HL.out]; exact ⟨rfl, I1.out⟩⟩
    | succ k =>
      obtain rfl : z = (k : Int) := by omega
      have hkr : k < r + 1 := by omega
      have gk : (k : Int) < (r : Int) + 1 := by omega
      have gkn : (k : Int) < (n : Int) := by omega
      have gk0 : ¬ (k : Int) < 0 := by omega
      obtain ⟨u0, u1⟩ := I1.out.2 k hkr
      have hus := I5.out
      clear hz
      obtain ⟨bq, hbq⟩ : ∃ b, ((k : Int) == (r : Int)) = b := ⟨_, rfl⟩
      go_upto_if 30 with fail
      go_cut [33] (fun _ wx => ∃ m2, Hid (RwB wx (L + 1) (r + 1) m2) ∧ Hid (madeF E (k + 1) m2 = F) ∧ Hid (Box wx L [.slice RA rn rc, .slice A n c]) ∧ Hid (Below L w wx) ∧ Hid (L + 1 < wx.heap.size))
      case first =>
        cases bq with
        | true =>
          obtain rfl : k = r := by have := eq_of_beq hbq; omega
          have FIN : Hid (madeF E (k + 1) (m.set k true) = F) := Lib.hid (by have h := I2.out; rw [if_pos rfl] at h; exact h)
          have J1 := Lib.hid (I1.out.set hkr true)
          have J3 := Lib.hid (I3.out.far (p := ⟨L + 1, k, none⟩) (by show L + 1 ≠ L; omega) (.bool true))
          have J4 := Lib.hid (I4.out.setCell (p := ⟨L + 1, k, none⟩) (Nat.le_succ L) (.bool true))
          have J5 : Hid (L + 1 < (wr.setCell ⟨L + 1, k, none⟩ (.bool true)).heap.size) := Lib.hid (by simp only [World.size_setCell]; exact hus)
          clear I1 I2 I3 I4 I5
          go_wp2_with fail
          go_meet
          exact ⟨_, J1, FIN, J3, J4, J5⟩
        | false =>
          have hkk : k ≠ r := fun e => by rw [e, beq_self_eq_true] at hbq; cases hbq
          have FIN : Hid (madeF E (k + 1) m = F) := Lib.hid (by have h := I2.out; rw [if_neg (by omega)] at h; exact h)
          go_wp2_with fail
          go_meet
          exact ⟨_, I1, FIN, I3, I4, I5⟩
      case rest =>
        obtain ⟨m2, J1, J2, J3, J4, J5⟩ := hcut
        clear I1 I2 I3 I4 I5 u0 u1 hbq hus
        obtain ⟨x, hx⟩ : ∃ x, E[k]? = some x := ⟨_, List.getElem?_eq_getElem (by omega)⟩
        have hkE : k < E.length := by omega
        have hxx : E[k] = x := by rw [List.getElem?_eq_getElem hkE] at hx; exact Option.some.inj hx
        obtain ⟨b, off, rfl, hc⟩ := (HE.out.on (by rw [HL.out]; exact J4.out)).at (i := k) (by omega)
        have hd := hc k hkE
        rw [hxx] at hd
        have c0 : wc.cell? ⟨b, off + k * 6, none⟩ = some (.string ⟨x.op.toArray⟩) := by simpa [xpR] using hd 0 _ rfl
        have c1 : wc.cell? ⟨b, off + k * 6 + 1, none⟩ = some (.string ⟨x.name.toArray⟩) := hd 1 _ rfl
        have c2 : wc.cell? ⟨b, off + k * 6 + 2, none⟩ = some (.int .i64 x.value) := hd 2 _ rfl
        have c3 : wc.cell? ⟨b, off + k * 6 + 3, none⟩ = some (.int .i64 x.a) := hd 3 _ rfl
        have c4 : wc.cell? ⟨b, off + k * 6 + 4, none⟩ = some (.int .i64 x.b) := hd 4 _ rfl
        have c5 : wc.cell? ⟨b, off + k * 6 + 5, none⟩ = some (.int .i64 x.c) := hd 5 _ rfl
        have hsb := World.block_lt_of_cell? wc _ c0
        obtain ⟨y0, y1⟩ := bx2 J3.out
        have hsy := J3.out.1
        have hwc := J5.out
        obtain ⟨w5, hw5, YB, b5⟩ : ∃ w5, wc.alloc (.cells #[.string ⟨x.op.toArray⟩, .string ⟨x.name.toArray⟩, .int .i64 x.value, .int .i64 x.a, .int .i64 x.b, .int .i64 x.c] 104) = w5 ∧ Box w5 wc.heap.size (xpC x) ∧ Below wc.heap.size wc w5 := ⟨_, rfl, Box.new _ _ (xpC x), (Below.refl _ _).alloc (Nat.le_refl _) _⟩
        obtain ⟨X, hX⟩ : ∃ X, wc.heap.size = X := ⟨_, rfl⟩
        rw [hX] at YB hwc
        have R5 := Lib.hid (J1.out.on b5); have P5 := Lib.hid (J3.out.on b5)
        have B5 : Hid (Below L w w5) := Lib.hid (J4.out.trans (b5.mono (by omega)))
        have Y5 := Lib.hid YB
        have HW5 := Lib.hid hw5; have HX := Lib.hid hX
        have hlm : m2.length = r + 1 := J1.out.1
        have hmany := Lib.hid (fun w => rmany_any x.op w)
        have hpart := Lib.hid (fun w t => rpart_any x t w)
        unfold xpC at hpart
        have hpl := parts_few3 x
        have hpm := parts_many x
        obtain ⟨l, hl⟩ : ∃ l, parts x = l := ⟨_, rfl⟩
        have hpa : Hid (∀ q, q < l.length → l[q]? = some (partAt x q)) := Lib.hid (fun q hq => by rw [← hl]; exact parts_at (by rw [hl]; exact hq))
        rw [hl] at hpl hpm
        rw [← hpm] at hmany
        have gl : (l.length : Int) ≤ 3 := by omega
        have HXE := Lib.hid hx; have HLL := Lib.hid hl
        clear hc hd hxx hkE J1 J3 J4 J5 hw5 hX YB b5 hpm hx hl
        go_upto_region 10 with fail
        rw [HW5.out]
        (try rw [HX.out])
        clear HW5 c0 c1 c2 c3 c4 c5 hsb y0 y1 hsy
        cases hb : m2.getD k false with
        | false =>
          have FIN : Hid (madeF E k m2 = F) := Lib.hid (by
            have h := J2.out
            unfold madeF at h
            rw [HXE.out] at h
            simp only [] at h
            rw [if_neg (by intro e; rw [List.getD, e] at hb; cases hb)] at h
            exact h)
          obtain ⟨u1, -⟩ := R5.out.2 k hkr
          rw [hb] at u1
          have hs5 := World.block_lt_of_cell? w5 _ u1
          clear hb J2 HXE
          go_wp2_with fail
          go_loopw [9] (fun q wx => q = .int .i64 0 ∧ w5 = wx) (fun q _ => (intOf q).toNat)
          case atStart => exact ⟨rfl, rfl⟩
          case round =>
            obtain ⟨rfl, rfl⟩ := hrel
            go_wp2_with fail
            exact ⟨⟨k, (k : Int) - 1, m2, by omega, rfl, rfl, R5, (show Hid _ from Lib.hid (by rw [if_neg (by omega)]; exact FIN.out)), P5, B5, Lib.hid (by omega)⟩, by simp [intOf] <;> omega⟩
        | true =>
          have hmk : m2[k]? = some true := by
            have : m2[k]? = some (m2[k]'(by omega)) := List.getElem?_eq_getElem (by omega)
            rw [this]
            simp only [List.getD, this] at hb
            exact congrArg some hb
          have FM : Hid ((match PCheck.mark k l m2 with | none => none | some m' => madeF E k m') = F) := Lib.hid (by
            have h := J2.out
            unfold madeF at h
            rw [HXE.out] at h
            simp only [] at h
            rw [if_pos hmk, HLL.out] at h
            exact h)
          have HB := Lib.hid hb
          clear hb hmk J2 HXE
          go_wp2_with fail
          go_loopw [9] (fun q wx => ∃ (t : Nat) (m' : List Bool), t ≤ l.length ∧ q = .int .i64 t ∧ Hid (RwB wx (L + 1) (r + 1) m') ∧ Hid ((match PCheck.mark k (l.drop t) m' with | none => none | some m'' => madeF E k m'') = F) ∧ Hid (m'.getD k false = true) ∧ Hid (Box wx L [.slice RA rn rc, .slice (some ⟨b, off, none⟩) n c]) ∧ Hid (Below L w wx) ∧ Hid (Box wx X (xpC x))) (fun q _ => l.length - (intOf q).toNat)
          case atStart => exact ⟨0, m2, Nat.zero_le _, rfl, R5, (show Hid _ from by rw [List.drop_zero]; exact FM.out), HB, P5, B5, Y5⟩
          case round =>
            clear R5 FM HB P5 B5 Y5
            obtain ⟨t, m', ht, rfl, I1, I2, I3, I4, I5, I7⟩ := hrel
            obtain ⟨u1, -⟩ := I1.out.2 k hkr
            rw [I3.out] at u1
            have hs5 := World.block_lt_of_cell? wr _ u1
            obtain ⟨z0, z1, z2, z3, z4, z5⟩ := box6 I7.out
            have hsz := I7.out.1
            by_cases htl : t < l.length
            · have gt : (t : Int) < (l.length : Int) := by omega
              obtain ⟨p, hp⟩ : ∃ p, partAt x t = p := ⟨_, rfl⟩
              have hdr : l.drop t = p :: l.drop (t + 1) := by
                have h1 := hpa.out t htl
                rw [List.getElem?_eq_getElem htl] at h1
                rw [List.drop_eq_getElem_cons htl, Option.some.inj h1, hp]
              have KP := Lib.hid (fun w => hpart.out w t)
              rw [hp] at KP
              go_wp2_with fail
              refine (hmany.out _).mono ?_
              rintro _ _ ⟨rfl, rfl⟩
              go_wp2_with fail
              refine (KP.out _).mono ?_
              rintro _ w6 ⟨rfl, b6⟩
              have K1 := Lib.hid (I1.out.on b6); have K4 := Lib.hid (I4.out.on b6); have K7 := Lib.hid (I7.out.on b6)
              have K5 : Hid (Below L w w6) := Lib.hid (I5.out.trans (b6.mono (by omega)))
              have hs6 := b6.size
              clear b6 u1 z0 z1 z2 z3 z4 z5 KP I1 I4 I5 I7
              by_cases hbad : p < 0 ∨ (k : Int) ≤ p
              · have FIN : Hid (none = F) := Lib.hid (by
                  have h := I2.out
                  rw [hdr] at h
                  unfold PCheck.mark at h
                  rw [if_pos hbad] at h
                  exact h)
                clear hdr hp I2
                rcases hbad with h1 | h1
                · go_wp2_with fail
                  rw [← HQ.out, ← FIN.out]
                  exact ⟨by rw [HL.out]; exact K5.out, rfl⟩
                · have h2 : ¬ p < 0 := by omega
                  go_wp2_with fail
                  rw [← HQ.out, ← FIN.out]
                  exact ⟨by rw [HL.out]; exact K5.out, rfl⟩
              · obtain ⟨pn, rfl⟩ : ∃ pn : Nat, p = pn := ⟨p.toNat, by omega⟩
                have hpn : pn < k := by omega
                have hpn2 : pn < r + 1 := by omega
                have FIN : Hid ((match PCheck.mark k (l.drop (t + 1)) (m'.set pn true) with | none => none | some m'' => madeF E k m'') = F) := Lib.hid (by
                  have h := I2.out
                  rw [hdr] at h
                  unfold PCheck.mark at h
                  rw [if_neg hbad, Int.toNat_natCast] at h
                  exact h)
                obtain ⟨v1, v2⟩ := K1.out.2 pn hpn2
                have M1 := Lib.hid (K1.out.set hpn2 true)
                have M3 : Hid ((m'.set pn true).getD k false = true) := Lib.hid (by rw [set_other (by omega)]; exact I3.out)
                have M4 := Lib.hid (K4.out.far (p := ⟨L + 1, pn, none⟩) (by show L + 1 ≠ L; omega) (.bool true))
                have M5 := Lib.hid (K5.out.setCell (p := ⟨L + 1, pn, none⟩) (Nat.le_succ L) (.bool true))
                have M7 := Lib.hid (K7.out.far (p := ⟨L + 1, pn, none⟩) (by show L + 1 ≠ X; omega) (.bool true))
                have hus : L + 1 < w6.heap.size := by omega
                have g1 : ¬ (pn : Int) < 0 := by omega
                have g2 : ¬ (k : Int) ≤ (pn : Int) := by omega
                have g3 : (pn : Int) < (r : Int) + 1 := by omega
                clear hdr hp I2 I3 K1 K4 K5 K7 hbad
                go_wp2_with fail
                exact ⟨⟨t + 1, m'.set pn true, by omega, by congr 1, M1, FIN, M3, M4, M5, M7⟩, by simp [intOf]; omega⟩
            · obtain rfl : t = l.length := by omega
              have FIN : Hid (madeF E k m' = F) := Lib.hid (by
                have h := I2.out
                rw [List.drop_length] at h
                exact h)
              have S5 : Hid (L + 1 < wr.heap.size) := Lib.hid (by omega)
              clear I2 ht htl
              go_wp2_with fail
              refine (hmany.out _).mono ?_
              rintro _ _ ⟨rfl, rfl⟩
              go_wp2_with fail
              exact ⟨⟨k, (k : Int) - 1, m', by omega, rfl, rfl, I1, (show Hid _ from Lib.hid (by rw [if_neg (by omega)]; exact FIN.out)), I4, I5, S5⟩, by simp [intOf] <;> omega⟩
end Go.Proofs.YtdkcdgjpcojdfaaGreatDoor
