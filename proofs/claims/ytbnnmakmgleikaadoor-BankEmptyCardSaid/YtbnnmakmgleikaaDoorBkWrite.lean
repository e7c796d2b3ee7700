/-
  A file's text: what the landed bank answers.
-/
import Derived.Test.YtbnnmakmgleikaaDoorBkFile
import Derived.Test.YtbnnmakmgleikaaDoorBkPad
import Derived.Test.YtbnnmakmgleikaaDoorBldKit
import Derived.Deep.RegionHeld3
import Derived.Deep.DeepCutAuto
import Derived.Test.YtbnnmakmgleikaaDoorStepRec
set_option linter.unusedVariables false
namespace Go.Proofs.YtbnnmakmgleikaaDoor
open Go.RowKit
open PBank (Pay)

def WrB (t : List UInt8) (z : Int) (w : World) (e : Ending) (w' : World) : Prop := e = .returned (.tuple #[.string ⟨t.toArray⟩, .int .i64 z]) ∧ Below w.heap.size w w'
set_option maxHeartbeats 6400000 in
theorem kbwrite_no {w : World} {per : Int} {A : Option Addr} {n c : Nat} {l : List Pay} (hS : SlX payR w A n l) (hn : (n : Int) ≤ 9223372036854775807) (hR : ¬ PBank.Rt per l) :
    Calls Tryd.prog 10 #[.agg #[.int .i64 per, .slice A n c]] w (WrB [] 1 w) := by
  obtain ⟨Q, hQ⟩ : ∃ Q, WrB [] 1 w = Q := ⟨_, rfl⟩
  rw [hQ]
  have FIN : Hid (∀ (w' : World), Below w.heap.size w w' → Q (.returned (.tuple #[.string { data := #[] }, .int .i64 1])) w') := Lib.hid (fun w' a => by rw [← hQ]; exact ⟨rfl, a⟩)
  obtain ⟨w1, hw1, XB, b1⟩ : ∃ w1, w.alloc (.cells #[.int .i64 per, .slice A n c] 24) = w1 ∧ Box w1 w.heap.size [.int .i64 per, .slice A n c] ∧ Below w.heap.size w w1 := ⟨_, rfl, Box.new _ _ [.int .i64 per, .slice A n c], (Below.refl _ _).alloc (Nat.le_refl _) _⟩
  obtain ⟨x0, x1⟩ := c2 XB
  have hsx := XB.1
  have CR := Lib.hid (by have h := kright_any (per := per) (c := c) (hS.on b1) hn; rw [decide_eq_false hR] at h; exact h)
  have B1 := Lib.hid b1; have HW1 := Lib.hid hw1
  clear hQ XB b1 hw1 hS hR
  go_enter Tryd.func10, Tryd.ntmps10
  go_upto_region 1 with fail
  rw [HW1.out]
  go_wp2_with (go_at_call 13; refine CR.out.mono ?_)
  intro e2 w2 h2
  obtain ⟨rfl, b2⟩ := h2
  have B2 := Lib.hid (below_step B1.out b2)
  clear b2 CR
  go_wp2_with fail
  exact FIN.out _ B2.out
theorem tab_pad {n d : Nat} {z : Int} {w : World} (ht : Tab w) (hz : z = (n : Int)) (hd : 0 < d) (hd2 : d ≤ 20) (hn : n < 10 ^ d) (hm : n ≤ 9223372036854775807) {dz : Int} (hdz : dz = (d : Int)) :
    Calls Tryd.prog 19 #[.int .i64 z, .int .i64 dz] w (TxtB (PBank.pad d n) w) := by
  subst hz; subst hdz; exact kpadded_any w ht hd hd2 hn hm
theorem keepO {w10 w12 w13 : World} {P B : Nat} {a b c : Value} {l l2 : List UInt8} (h : w10.ownsRow P 44 3 (.slice (some ⟨P, 0, none⟩) 1 1) 1 [a, b, c]) (hb : Below w10.heap.size w10 w12) (_ : Bld B B l2 w13) (_ : Below B w12 w13)
    (hk : Lib.OthersKept 5 (some B) w12 w13) (hB : Bld B B l w10) : w13.cell? ⟨P, 0, none⟩ = some a ∧ w13.cell? ⟨P, 1, none⟩ = some b ∧ w13.cell? ⟨P, 2, none⟩ = some c := by
  have nb := bld_apart hB h (by decide)
  have h12 := own_kept h hb
  have h13 := own_others h12 hk (by decide) nb
  exact ⟨h13.cellAt 0 (by decide), h13.cellAt 1 (by decide), h13.cellAt 2 (by decide)⟩
set_option maxRecDepth 100000 in
set_option maxHeartbeats 12800000 in
theorem kbwrite_yes {w : World} {per : Int} {A : Option Addr} {n c : Nat} {l : List Pay} (hS : SlX payR w A n l) (hn : (n : Int) ≤ 9223372036854775807) (ht : Tab w) (hR : PBank.Rt per l) :
    Calls Tryd.prog 10 #[.agg #[.int .i64 per, .slice A n c]] w (WrB (PBank.txt per l) 0 w) := by
  obtain ⟨Q, hQ⟩ : ∃ Q, WrB (PBank.txt per l) 0 w = Q := ⟨_, rfl⟩
  rw [hQ]
  have FIN : Hid (∀ (w' : World), Below w.heap.size w w' → Q (.returned (.tuple #[.string ⟨(PBank.txt per l).toArray⟩, .int .i64 0])) w') := Lib.hid (fun w' a => by rw [← hQ]; exact ⟨rfl, a⟩)
  have hl : l.length = n := hS.1
  have hn5 : n ≤ 4999 := by rw [← hl]; exact hR.few
  obtain ⟨q, hq⟩ : ∃ q : Nat, per = q := ⟨per.toNat, by have := hR.lo; omega⟩
  have hqh : q ≤ 35999 := by have := hR.hi; omega
  obtain ⟨w1, hw1, XB, b1⟩ : ∃ w1, w.alloc (.cells #[.int .i64 per, .slice A n c] 24) = w1 ∧ Box w1 w.heap.size [.int .i64 per, .slice A n c] ∧ Below w.heap.size w w1 := ⟨_, rfl, Box.new _ _ [.int .i64 per, .slice A n c], (Below.refl _ _).alloc (Nat.le_refl _) _⟩
  obtain ⟨x0, x1⟩ := c2 XB
  have hsx := XB.1
  have CR := Lib.hid (by have h := kright_any (per := per) (c := c) (hS.on b1) hn; rw [decide_eq_true hR] at h; exact h)
  have B1 := Lib.hid b1; have HW1 := Lib.hid hw1; have HS := Lib.hid (hS.on b1); have HXB := Lib.hid XB; have HT := Lib.hid (ht.on b1); have HRt := Lib.hid hR; have HL := Lib.hid hl; have HQ2 := Lib.hid hq
  clear hQ XB b1 hw1 hS hR ht hl hq
  go_enter Tryd.func10, Tryd.ntmps10
  go_upto_region 1 with fail
  rw [HW1.out]
  go_wp2_with (go_at_call 13; refine CR.out.mono ?_)
  intro e2 w2 h2
  obtain ⟨rfl, b2⟩ := h2
  obtain ⟨x0, x1⟩ := c2 (HXB.out.on b2)
  have hsx := (HXB.out.on b2).1
  have hBs : w.heap.size < w2.heap.size := (HXB.out.on b2).1
  obtain ⟨w3, hw3⟩ : ∃ w3, w2.alloc (.cells #[.pointer none, .slice none 0 0] 56) = w3 := ⟨_, rfl⟩
  have bl3 : Bld w2.heap.size w2.heap.size [] w3 := by rw [← hw3]; exact bld_new w2
  have b3' : Below w2.heap.size w2 w3 := by rw [← hw3]; exact (Below.refl _ _).alloc (Nat.le_refl _) _
  have hs3 : w3.heap.size = w2.heap.size + 1 := by rw [← hw3]; simp
  have HT3 := Lib.hid (HT.out.on (below_step b2 b3'))
  have CP := Lib.hid (tab_pad (n := q) (d := 5) (z := per) (dz := 5) HT3.out HQ2.out (by decide) (by decide) (by have : (10 : Nat) ^ 5 = 100000 := rfl; omega) (by omega) rfl)
  have B2 := Lib.hid b2; have BL3 := Lib.hid bl3; have B3 := Lib.hid b3'; have HS3 := Lib.hid hs3; have HW3 := Lib.hid hw3
  clear b2 CR bl3 b3' hs3 hw3
  obtain ⟨t, ht⟩ : ∃ t, PBank.pad 5 q = t := ⟨_, rfl⟩
  have htl : t.length = 5 := by rw [← ht]; exact PBank.pad_len (by decide) (by have : (10 : Nat) ^ 5 = 100000 := rfl; omega)
  rw [ht] at CP
  have HH : Hid (((({ data := #[72] } : ByteArray) ++ { data := t.toArray }) ++ { data := #[10] }) = ⟨(PBank.head per).toArray⟩) := Lib.hid (by
    have e : PBank.head per = [72] ++ t ++ [10] := by unfold PBank.head; rw [HQ2.out, Int.toNat_natCast, ht]; simp
    rw [e]
    exact (congrArg (· ++ _) (ByteArray.mk_append_mk [72] t)).trans (ByteArray.mk_append_mk _ [10]))
  have hhl := PBank.head_len HRt.out.lo HRt.out.hi
  clear ht
  go_upto_region 4 with fail
  rw [HW3.out]
  obtain ⟨x0, x1⟩ := c2 (HXB.out.on (below_step B2.out B3.out))
  have hsx : w.heap.size < w3.heap.size := (HXB.out.on (below_step B2.out B3.out)).1
  clear HW3
  go_wp2_with (go_at_call 19; refine CP.out.mono ?_)
  intro e4 w4 h4
  obtain ⟨rfl, b4⟩ := h4
  have wc := bwrite_any w2.heap.size w2.heap.size [] (PBank.head per) w4 (bld_below BL3.out b4) (by rw [hhl]; decide) (by have := b4.size; have := HS3.out; omega)
  rw [← HH.out] at wc
  have WC := Lib.hid wc
  have B4 := Lib.hid (B3.out.trans (b4.mono (by have := HS3.out; omega)))
  have hs34 := b4.size
  clear wc b4 CP x0 x1 hsx
  go_wp2_with (go_at_call 18; refine WC.out.mono ?_)
  rintro e5 w5 ⟨rfl, bl5, be5, ok5⟩
  have BL5 := Lib.hid bl5
  have B5 := Lib.hid (B4.out.trans be5)
  have HB5 : Hid (w2.heap.size < w5.heap.size) := Lib.hid (by have := be5.size; have := HS3.out; omega)
  have XB2 := Lib.hid (HXB.out.on B2.out)
  have S2 := Lib.hid (HS.out.on B2.out)
  have HT2 := Lib.hid (HT.out.on B2.out)
  obtain ⟨x0, x1⟩ := c2 (XB2.out.on B5.out)
  have hsx := (XB2.out.on B5.out).1
  clear bl5 be5 ok5 WC B4 BL3 B3 HH
  go_wp2_with fail
  clear x0 x1 hsx
  go_loopw [5, 20] (fun z i wx => ∃ k : Nat, i = .int .i64 k ∧ k ≤ n ∧ z = .int .i64 (PBank.sum (l.take k)) ∧ Hid (Bld w2.heap.size w2.heap.size (PBank.head per ++ PBank.lines (l.take k)) wx) ∧ Hid (Below w2.heap.size w2 wx) ∧ Hid (w2.heap.size < wx.heap.size)) (fun _ i _ => n - (intOf i).toNat)
  case atStart => exact ⟨0, rfl, Nat.zero_le _, rfl, Lib.hid (by simpa [PBank.lines] using BL5.out), B5, HB5⟩
  case round =>
    clear BL5 B5 HB5
    obtain ⟨k, rfl, hk, rfl, I1, I2, I3⟩ := hrel
    by_cases hlt : k < n
    · have gk : (k : Int) < (n : Int) := by omega
      obtain ⟨p, hp⟩ : ∃ p, l[k]? = some p := ⟨_, List.getElem?_eq_getElem (by rw [HL.out]; exact hlt)⟩
      have hok := HRt.out.mem (List.mem_of_getElem? hp)
      obtain ⟨h1, h2, h3, h4, h5⟩ := PBank.okP_iff.1 hok
      have htk : l.take (k + 1) = l.take k ++ [p] := by rw [List.take_add_one, hp]; rfl
      have hall : ∀ y ∈ l.take k, PBank.okP y = true := fun y hy => HRt.out.mem (List.mem_of_mem_take hy)
      have hsb := PBank.sum_bound hall
      have hln := PBank.lines_len hall
      have hkl : (l.take k).length = k := by rw [List.length_take, HL.out]; omega
      rw [hkl] at hsb hln
      obtain ⟨b, o, rfl, -⟩ := (S2.out.on I2.out).at hlt
      obtain ⟨l0, l1, l2⟩ := pay_cell (S2.out.on I2.out) hlt hp
      have hsl := World.block_lt_of_cell? wr _ l0
      obtain ⟨w9, hw9, SB, b9⟩ : ∃ w9, wr.alloc (.cells #[.int .u8 0, .int .i64 0, .int .i64 0] 44) = w9 ∧ Box w9 wr.heap.size [.int .u8 0, .int .i64 0, .int .i64 0] ∧ Below wr.heap.size wr w9 := ⟨_, rfl, Box.new _ _ [.int .u8 0, .int .i64 0, .int .i64 0], (Below.refl _ _).alloc (Nat.le_refl _) _⟩
      obtain ⟨w10, hw10, X10, ON10⟩ := set3 SB (.int .u8 p.kind) (.int .i64 p.num) (.int .i64 p.amt)
      have NX : w10.ownsRow wr.heap.size 44 3 (.slice (some ⟨wr.heap.size, 0, none⟩) 1 1) 1 [.int .u8 p.kind, .int .i64 p.num, .int .i64 p.amt] := by
        have h0 := own_built payR wr 44 [⟨0, 0, 0⟩] (Nat.le_refl _) (show 1 ≤ maxLen by decide)
        have h1 := (h0.stored 0 (.int .u8 p.kind)).1
        have h2 := (h1.stored 1 (.int .i64 p.num)).1
        have h3 := (h2.stored 2 (.int .i64 p.amt)).1
        rw [← hw10, ← hw9]
        exact h3
      have b10 : Below wr.heap.size wr w10 := ON10.below (Nat.le_refl _) b9
      have BL10 := bld_below I1.out b10
      obtain ⟨s0, s1, s2⟩ := b3 SB
      obtain ⟨m0, m1, m2⟩ := f3 SB
      have hs9 := SB.1
      obtain ⟨u0, u1, u2⟩ := b3 X10
      have hs10 := X10.1
      have HW10 := Lib.hid hw10; have HNX := Lib.hid NX; have HBL := Lib.hid BL10; have B10 := Lib.hid (I2.out.trans (b10.mono (Nat.le_of_lt I3.out)))
      have HTK := Lib.hid htk; have HOK := Lib.hid hok; have HLN := Lib.hid hln; have HSB := Lib.hid hsb
      clear SB X10 ON10 NX b9 b10 hw10 BL10 I1 I2 hp htk hok hall hln hsb hkl
      go_upto_region 9 with fail
      rw [HW10.out]
      clear HW10 hw9 s0 s1 s2 m0 m1 m2 hs9 l0 l1 l2 hsl
      have hkind : p.kind = 69 ∨ p.kind = 67 := h1
      have HT10 := HT2.out.on B10.out
      obtain ⟨ta, hta⟩ : ∃ t, PBank.pad 10 p.num.toNat = t := ⟨_, rfl⟩
      obtain ⟨tm, htm⟩ : ∃ t, PBank.pad 16 p.amt.toNat = t := ⟨_, rfl⟩
      have tal : ta.length = 10 := by rw [← hta]; exact PBank.pad_len (by decide) (by have : (10 : Nat) ^ 10 = 10000000000 := rfl; omega)
      have tml : tm.length = 16 := by rw [← htm]; exact PBank.pad_len (by decide) (by have : (10 : Nat) ^ 16 = 10000000000000000 := rfl; omega)
      have CA : ∀ wz, Below w10.heap.size w10 wz → Calls Tryd.prog 19 #[.int .i64 p.num, .int .i64 10] wz (TxtB ta wz) := fun wz hb => by
        rw [← hta]; exact tab_pad (d := 10) (HT10.on hb) (by omega) (by decide) (by decide) (by have : (10 : Nat) ^ 10 = 10000000000 := rfl; omega) (by omega) rfl
      have CM : ∀ wz, Below w10.heap.size w10 wz → Calls Tryd.prog 19 #[.int .i64 p.amt, .int .i64 16] wz (TxtB tm wz) := fun wz hb => by
        rw [← htm]; exact tab_pad (d := 16) (HT10.on hb) (by omega) (by decide) (by decide) (by have : (10 : Nat) ^ 16 = 10000000000000000 := rfl; omega) (by omega) rfl
      have HLE : Hid (PBank.line p = UInt8.ofNat p.kind.toNat :: (ta ++ (tm ++ [10]))) := Lib.hid (by unfold PBank.line; rw [hta, htm])
      have BD := (Below.refl w10.heap.size w10).drew
      have Z0 : w10.drew.cell? ⟨wr.heap.size, 0, none⟩ = some (.int .u8 p.kind) ∧ w10.drew.cell? ⟨wr.heap.size, 1, none⟩ = some (.int .i64 p.num) ∧ w10.drew.cell? ⟨wr.heap.size, 2, none⟩ = some (.int .i64 p.amt) := ⟨u0, u1, u2⟩
      have CA0 := CA _ BD; have CM0 := CM _ BD
      have WS : ∀ wz, Below w10.heap.size w10 wz → Calls Tryd.prog 18 #[.pointer (some ⟨w2.heap.size, 0, none⟩), .string ⟨(PBank.line p).toArray⟩] wz fun e w' => e = .returned (.tuple #[.int .i64 (PBank.line p).length, .nilIface]) ∧ (Bld w2.heap.size w2.heap.size (PBank.head per ++ PBank.lines (l.take k) ++ PBank.line p) w' ∧ Below w2.heap.size wz w' ∧ Lib.OthersKept 5 (some w2.heap.size) wz w') := fun wz hb => bwrite_any w2.heap.size w2.heap.size _ _ wz (bld_below HBL.out hb) (by rw [List.length_append, hhl, HLN.out, PBank.line_len HOK.out]; omega) (by have := hb.size; have := I3.out; have := B10.out.size; omega)
      clear hta htm u0 u1 u2
      rcases hkind with hk69 | hk67
      · have hcv : ∀ wz : World, (convert 5 9 (.int .u8 69)).run Tryd.prog wz = .ok (.string { data := #[69] }) wz := fun wz => by kernel_rfl
        have HS : (((({ data := #[69] } : ByteArray) ++ { data := ta.toArray }) ++ { data := tm.toArray }) ++ { data := #[10] }) = ⟨(PBank.line p).toArray⟩ := by
          rw [HLE.out, hk69]
          have e : (UInt8.ofNat ((69 : Int)).toNat :: (ta ++ (tm ++ [10])) : List UInt8) = [69] ++ ta ++ tm ++ [10] := by simp
          rw [e]
          exact (congrArg (· ++ _) ((congrArg (· ++ _) (ByteArray.mk_append_mk [69] ta)).trans (ByteArray.mk_append_mk _ tm))).trans (ByteArray.mk_append_mk _ [10])
        rw [← HS] at WS
        rw [hk69] at Z0 HNX
        clear HS
        go_cut [] (fun wx => ∃ w12, Below w10.heap.size w10 w12 ∧ Hid (Bld w2.heap.size w2.heap.size (PBank.head per ++ PBank.lines (l.take k) ++ PBank.line p) wx ∧ Below w2.heap.size w12 wx ∧ Lib.OthersKept 5 (some w2.heap.size) w12 wx))
        case first =>
          go_region_held3 (fun w' => w'.cell? ⟨wr.heap.size, 0, none⟩ = some (.int .u8 69) ∧ w'.cell? ⟨wr.heap.size, 1, none⟩ = some (.int .i64 p.num) ∧ w'.cell? ⟨wr.heap.size, 2, none⟩ = some (.int .i64 p.amt))
            (first
              | with_reducible exact Z0
              | with_reducible exact Z1
              | with_reducible exact Z2
              | with_reducible exact Z3)
            (first
              | (go_at_call 19; (with_reducible refine CA0.mono ?_); rintro _ w11 ⟨rfl, b11⟩; have Z1 := keepB3 b11 Z0; have BX := below_step BD b11; have CM1 := CM _ BX)
              | (go_at_call 19; (with_reducible refine CM0.mono ?_); rintro _ w11 ⟨rfl, b11⟩; have Z1 := keepB3 b11 Z0; have BX := below_step BD b11; have CA1 := CA _ BX)
              | (go_at_call 19; (with_reducible refine CM1.mono ?_); rintro _ w12 ⟨rfl, b12⟩; have Z2 := keepB3 b12 Z1; have BY := below_step BX b12; have WW := WS _ BY)
              | (go_at_call 19; (with_reducible refine CA1.mono ?_); rintro _ w12 ⟨rfl, b12⟩; have Z2 := keepB3 b12 Z1; have BY := below_step BX b12; have WW := WS _ BY)
              | (go_at_call 18; (with_reducible refine WW.mono ?_); rintro _ w13 ⟨rfl, bl13, be13, ok13⟩; have Z3 := keepO HNX.out BY bl13 be13 ok13 HBL.out))
          all_goals
            have HH := Lib.hid (⟨bl13, be13, ok13⟩ : _ ∧ _ ∧ _)
            go_wp2_with fail
            go_meet
            exact ⟨_, BY, HH⟩
        case rest =>
          obtain ⟨w12, bY, HH⟩ := hcut
          obtain ⟨bl13, be13, ok13⟩ := HH.out
          obtain ⟨v0, v1, v2⟩ := keepO HNX.out bY bl13 be13 ok13 HBL.out
          have hsv := World.block_lt_of_cell? wc _ v2
          have HBN : Hid (Bld w2.heap.size w2.heap.size (PBank.head per ++ PBank.lines (l.take (k + 1))) wc) := Lib.hid (by rw [HTK.out, PBank.lines_snoc, ← List.append_assoc]; exact bl13)
          have HBD : Hid (Below w2.heap.size w2 wc) := Lib.hid ((B10.out.trans (bY.mono (by have := I3.out; have := B10.out.size; omega))).trans be13)
          have HI3 : Hid (w2.heap.size < wc.heap.size) := Lib.hid (by have := be13.size; have := bY.size; have := hs10; have := I3.out; omega)
          have HSN : Hid (PBank.sum (l.take k) + p.amt = PBank.sum (l.take (k + 1))) := Lib.hid (by rw [HTK.out, PBank.sum_snoc])
          obtain ⟨s0, s1⟩ := HSB.out
          obtain ⟨sm, hsm⟩ : ∃ z, PBank.sum (l.take k) = z := ⟨_, rfl⟩
          rw [hsm] at s0 s1 HSN ⊢
          have gw : IntKind.i64.wrap (sm + p.amt) = sm + p.amt := by rw [IntKind.wrap_i64]; omega
          clear bl13 be13 ok13 HH hsm
          go_wp2_with fail
          exact ⟨⟨k + 1, by congr 1, by omega, congrArg (Value.int .i64) HSN.out, HBN, HBD, HI3⟩, by simp [intOf]; omega⟩
      · have hcv : ∀ wz : World, (convert 5 9 (.int .u8 67)).run Tryd.prog wz = .ok (.string { data := #[67] }) wz := fun wz => by kernel_rfl
        have HS : (((({ data := #[67] } : ByteArray) ++ { data := ta.toArray }) ++ { data := tm.toArray }) ++ { data := #[10] }) = ⟨(PBank.line p).toArray⟩ := by
          rw [HLE.out, hk67]
          have e : (UInt8.ofNat ((67 : Int)).toNat :: (ta ++ (tm ++ [10])) : List UInt8) = [67] ++ ta ++ tm ++ [10] := by simp
          rw [e]
          exact (congrArg (· ++ _) ((congrArg (· ++ _) (ByteArray.mk_append_mk [67] ta)).trans (ByteArray.mk_append_mk _ tm))).trans (ByteArray.mk_append_mk _ [10])
        rw [← HS] at WS
        rw [hk67] at Z0 HNX
        clear HS
        go_cut [] (fun wx => ∃ w12, Below w10.heap.size w10 w12 ∧ Hid (Bld w2.heap.size w2.heap.size (PBank.head per ++ PBank.lines (l.take k) ++ PBank.line p) wx ∧ Below w2.heap.size w12 wx ∧ Lib.OthersKept 5 (some w2.heap.size) w12 wx))
        case first =>
          go_region_held3 (fun w' => w'.cell? ⟨wr.heap.size, 0, none⟩ = some (.int .u8 67) ∧ w'.cell? ⟨wr.heap.size, 1, none⟩ = some (.int .i64 p.num) ∧ w'.cell? ⟨wr.heap.size, 2, none⟩ = some (.int .i64 p.amt))
            (first
              | with_reducible exact Z0
              | with_reducible exact Z1
              | with_reducible exact Z2
              | with_reducible exact Z3)
            (first
              | (go_at_call 19; (with_reducible refine CA0.mono ?_); rintro _ w11 ⟨rfl, b11⟩; have Z1 := keepB3 b11 Z0; have BX := below_step BD b11; have CM1 := CM _ BX)
              | (go_at_call 19; (with_reducible refine CM0.mono ?_); rintro _ w11 ⟨rfl, b11⟩; have Z1 := keepB3 b11 Z0; have BX := below_step BD b11; have CA1 := CA _ BX)
              | (go_at_call 19; (with_reducible refine CM1.mono ?_); rintro _ w12 ⟨rfl, b12⟩; have Z2 := keepB3 b12 Z1; have BY := below_step BX b12; have WW := WS _ BY)
              | (go_at_call 19; (with_reducible refine CA1.mono ?_); rintro _ w12 ⟨rfl, b12⟩; have Z2 := keepB3 b12 Z1; have BY := below_step BX b12; have WW := WS _ BY)
              | (go_at_call 18; (with_reducible refine WW.mono ?_); rintro _ w13 ⟨rfl, bl13, be13, ok13⟩; have Z3 := keepO HNX.out BY bl13 be13 ok13 HBL.out))
          all_goals
            have HH := Lib.hid (⟨bl13, be13, ok13⟩ : _ ∧ _ ∧ _)
            go_wp2_with fail
            go_meet
            exact ⟨_, BY, HH⟩
        case rest =>
          obtain ⟨w12, bY, HH⟩ := hcut
          obtain ⟨bl13, be13, ok13⟩ := HH.out
          obtain ⟨v0, v1, v2⟩ := keepO HNX.out bY bl13 be13 ok13 HBL.out
          have hsv := World.block_lt_of_cell? wc _ v2
          have HBN : Hid (Bld w2.heap.size w2.heap.size (PBank.head per ++ PBank.lines (l.take (k + 1))) wc) := Lib.hid (by rw [HTK.out, PBank.lines_snoc, ← List.append_assoc]; exact bl13)
          have HBD : Hid (Below w2.heap.size w2 wc) := Lib.hid ((B10.out.trans (bY.mono (by have := I3.out; have := B10.out.size; omega))).trans be13)
          have HI3 : Hid (w2.heap.size < wc.heap.size) := Lib.hid (by have := be13.size; have := bY.size; have := hs10; have := I3.out; omega)
          have HSN : Hid (PBank.sum (l.take k) + p.amt = PBank.sum (l.take (k + 1))) := Lib.hid (by rw [HTK.out, PBank.sum_snoc])
          obtain ⟨s0, s1⟩ := HSB.out
          obtain ⟨sm, hsm⟩ : ∃ z, PBank.sum (l.take k) = z := ⟨_, rfl⟩
          rw [hsm] at s0 s1 HSN ⊢
          have gw : IntKind.i64.wrap (sm + p.amt) = sm + p.amt := by rw [IntKind.wrap_i64]; omega
          clear bl13 be13 ok13 HH hsm
          go_wp2_with fail
          exact ⟨⟨k + 1, by congr 1, by omega, congrArg (Value.int .i64) HSN.out, HBN, HBD, HI3⟩, by simp [intOf]; omega⟩
    · obtain rfl : k = n := by omega
      have gk : ¬ (k : Int) < (k : Int) := by omega
      have htk : l.take k = l := List.take_of_length_le (by rw [HL.out]; exact Nat.le_refl _)
      rw [htk] at I1 ⊢
      have hall : ∀ y ∈ l, PBank.okP y = true := fun y hy => HRt.out.mem hy
      have hsb := PBank.sum_bound hall
      have hln := PBank.lines_len hall
      have hfl := PBank.foot_len HRt.out
      rw [HL.out] at hsb hln
      obtain ⟨sN, hsN⟩ : ∃ z : Nat, PBank.sum l = z := ⟨(PBank.sum l).toNat, by omega⟩
      have hsle : sN ≤ 5628373634306277376 := by omega
      have HTr := HT2.out.on I2.out
      obtain ⟨ta, hta⟩ : ∃ t, PBank.pad 4 k = t := ⟨_, rfl⟩
      obtain ⟨tm, htm⟩ : ∃ t, PBank.pad 20 sN = t := ⟨_, rfl⟩
      have tal : ta.length = 4 := by rw [← hta]; exact PBank.pad_len (by decide) (by have : (10 : Nat) ^ 4 = 10000 := rfl; omega)
      have tml : tm.length = 20 := by rw [← htm]; exact PBank.pad_len (by decide) (by have : (10 : Nat) ^ 20 = 100000000000000000000 := rfl; omega)
      have CA := Lib.hid (show Calls Tryd.prog 19 #[.int .i64 (k : Int), .int .i64 4] wr (TxtB ta wr) by
        rw [← hta]; exact tab_pad (d := 4) HTr rfl (by decide) (by decide) (by have : (10 : Nat) ^ 4 = 10000 := rfl; omega) (by omega) rfl)
      have CM : Hid (∀ wz, Below wr.heap.size wr wz → Calls Tryd.prog 19 #[.int .i64 (sN : Int), .int .i64 20] wz (TxtB tm wz)) := Lib.hid (fun wz hb => by
        rw [← htm]; exact tab_pad (d := 20) (HTr.on hb) rfl (by decide) (by decide) (by have : (10 : Nat) ^ 20 = 100000000000000000000 := rfl; omega) (by omega) rfl)
      have HS : Hid (((((({ data := #[84] } : ByteArray) ++ { data := ta.toArray }) ++ { data := tm.toArray }) ++ { data := #[10] })) = ⟨(PBank.foot l).toArray⟩) := Lib.hid (by
        have e : PBank.foot l = [84] ++ ta ++ tm ++ [10] := by unfold PBank.foot; rw [HL.out, hsN, Int.toNat_natCast, hta, htm]; simp
        rw [e]
        exact (congrArg (· ++ _) ((congrArg (· ++ _) (ByteArray.mk_append_mk [84] ta)).trans (ByteArray.mk_append_mk _ tm))).trans (ByteArray.mk_append_mk _ [10]))
      rw [hsN]
      obtain ⟨x0, x1⟩ := c2 (XB2.out.keep I2.out hBs)
      have hsx := (XB2.out.keep I2.out hBs).1
      clear hta htm hsN hall htk
      go_wp2_with (go_at_call 19; refine CA.out.mono ?_)
      intro e6 w6 h6
      obtain ⟨rfl, b6⟩ := h6
      have CM6 := Lib.hid (CM.out w6 b6)
      have B6 := Lib.hid b6
      clear b6 CA x0 x1 hsx
      go_wp2_with (go_at_call 19; refine CM6.out.mono ?_)
      intro e7 w7 h7
      obtain ⟨rfl, b7⟩ := h7
      have b67 := below_step B6.out b7
      have wc := bwrite_any w2.heap.size w2.heap.size _ (PBank.foot l) w7 (bld_below I1.out b67) (by rw [List.length_append, hhl, hln, hfl]; omega) (by have := I3.out; have := b67.size; omega)
      rw [← HS.out] at wc
      have WC := Lib.hid wc
      have B7 := Lib.hid (I2.out.trans (b67.mono (Nat.le_of_lt I3.out)))
      have HI7 := Lib.hid (Nat.lt_of_lt_of_le I3.out b67.size)
      clear wc b7 b67 CM6 CM HS B6
      go_wp2_with (go_at_call 18; refine WC.out.mono ?_)
      rintro e8 w8 ⟨rfl, bl8, be8, ok8⟩
      have HI8 : w2.heap.size < w8.heap.size := Nat.lt_of_lt_of_le HI7.out be8.size
      have ST := Lib.hid (Tryd.Builder_String_any_k w2.heap.size w2.heap.size (PBank.head per ++ PBank.lines l ++ PBank.foot l) w8 bl8 (Nat.le_of_lt HI8))
      have B8 := Lib.hid (B7.out.trans be8)
      clear bl8 be8 ok8 WC
      go_wp2_with (go_at_call 20; refine ST.out.mono ?_)
      rintro e14 w14 ⟨rfl, bl14, be14, ok14⟩
      have HB14 := Lib.hid (below_step B1.out (B2.out.trans ((B8.out.trans be14).mono B2.out.size)))
      have HTX : Hid (PBank.head per ++ (PBank.lines l ++ PBank.foot l) = PBank.txt per l) := Lib.hid rfl
      clear be14 ST bl14 ok14
      go_wp2_with fail
      rw [HTX.out]
      exact FIN.out _ HB14.out
end Go.Proofs.YtbnnmakmgleikaaDoor
