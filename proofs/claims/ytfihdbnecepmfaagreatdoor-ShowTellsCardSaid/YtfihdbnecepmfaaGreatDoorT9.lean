/-
  What the reference of layer 9 answers: the texts of all expressions of what was read.
  What the reference of layer 9 answers: the text of a program that was read.
-/
import Derived.Test.YtfihdbnecepmfaaGreatDoorRef09LevG
import Derived.Test.YtfihdbnecepmfaaGreatDoorKT
import Derived.Test.YtfihdbnecepmfaaGreatDoorCheckRowsG
import Derived.Test.YtfihdbnecepmfaaGreatDoorBK
import Derived.Test.YtfihdbnecepmfaaGreatDoorR1
import Derived.Deep.RegionHeld3
import Derived.Test.YtfihdbnecepmfaaGreatDoorShowLinesG

set_option linter.unusedVariables false
namespace Go.Proofs.YtfihdbnecepmfaaGreatDoor
open Go.RowKit
open PCheck (Xp)
open PShow (tN lN tell)

/-- Rows of texts are answered. -/
def TxsAns (L : List (List UInt8)) (w : World) (e : Ending) (w' : World) : Prop := ∃ B c, e = .returned (.slice B L.length c) ∧ SlX strR w' B L.length L ∧ Below w.heap.size w w'
theorem pb2 {w : World} {H : Nat} {a b : Value} (h : Box w H [a, b]) : w.cell? ⟨H, 0, none⟩ = some a ∧ w.cell? ⟨H, 1, none⟩ = some b := ⟨h.c 0 rfl, h.c 1 rfl⟩
theorem below_drewR (w : World) (q : Nat) : Below w.heap.size w (w.drewN q) := ⟨rfl, rfl, rfl, Nat.le_refl _, fun _ _ => rfl⟩
/-- A text is answered. -/
def TxtAns (t : List UInt8) (w : World) (e : Ending) (w' : World) : Prop := e = .returned (.string ⟨t.toArray⟩) ∧ Below w.heap.size w w'
theorem keep3c {w w' : World} {p0 p1 p2 : Addr} {a b c : Value} (hb : Below w.heap.size w w') (h : w.cell? p0 = some a ∧ w.cell? p1 = some b ∧ w.cell? p2 = some c) : w'.cell? p0 = some a ∧ w'.cell? p1 = some b ∧ w'.cell? p2 = some c :=
  ⟨(hb.cell (World.block_lt_of_cell? w _ h.1)).trans h.1, (hb.cell (World.block_lt_of_cell? w _ h.2.1)).trans h.2.1, (hb.cell (World.block_lt_of_cell? w _ h.2.2)).trans h.2.2⟩
theorem str_cell {w : World} {b o n : Nat} {L : List (List UInt8)} (h : SlX strR w (some ⟨b, o, none⟩) n L) {q : Nat} (hq : q < n) {x : List UInt8} (hx : L[q]? = some x) : w.cell? ⟨b, o + q, none⟩ = some (.string ⟨x.toArray⟩) := by
  obtain ⟨b', o', e, hc⟩ := h.at hq
  cases e
  obtain ⟨hl, rfl⟩ := List.getElem?_eq_some_iff.1 hx
  have := hc q hl 0 _ rfl
  have hk : strR.k = 1 := rfl
  rw [hk, Nat.mul_one, Nat.add_zero] at this
  exact this
theorem int_cell {w : World} {b o n : Nat} {L : List Int} (h : SlX intR w (some ⟨b, o, none⟩) n L) {q : Nat} (hq : q < n) {x : Int} (hx : L[q]? = some x) : w.cell? ⟨b, o + q, none⟩ = some (.int .i64 x) := by
  obtain ⟨b', o', e, hc⟩ := h.at hq
  cases e
  obtain ⟨hl, rfl⟩ := List.getElem?_eq_some_iff.1 hx
  have := hc q hl 0 _ rfl
  have hk : intR.k = 1 := rfl
  rw [hk, Nat.mul_one, Nat.add_zero] at this
  exact this
theorem lev_le (op : List UInt8) : PShow.lev op ≤ 4 := by
  unfold PShow.lev
  (repeat' split) <;> omega
set_option maxHeartbeats 12800000 in
set_option maxRecDepth 100000 in
theorem r9texts_any {w : World} {n c rn rc : Nat} {A RA : Option Addr} {E : List Xp} (hE : SlX xpR w A n E) (hAh : PShow.Ahead E) (hF : ∀ (k : Nat) (x : Xp), E[k]? = some x → ∃ f, PShow.formOf x.op = some f)
    (hR : ∀ x ∈ E, PShow.Rng x.op x.value) (hV : ∀ x ∈ E, x.value ≤ 9223372036854775807) (hT : ∀ k, k < n → (PShow.tx E k).length ≤ 5000) (hn9 : n ≤ 1000) :
    Calls Tryz.prog 15 #[.agg #[.slice RA rn rc, .slice A n c]] w (TxsAns ((List.range n).map (PShow.tx E)) w) := by
  obtain ⟨TX, hTX⟩ : ∃ TX, PShow.tx E = TX := ⟨_, rfl⟩
  rw [hTX] at hT ⊢
  obtain ⟨Q, hQ⟩ : ∃ Q, TxsAns ((List.range n).map TX) w = Q := ⟨_, rfl⟩
  rw [hQ]
  have FIN : Hid (∀ (B : Option Addr) (cb : Nat) (w' : World), SlX strR w' B n ((List.range n).map TX) → Below w.heap.size w w' → Q (.returned (.slice B n cb)) w') := Lib.hid (fun B cb w' h a => by
    rw [← hQ]
    have e : ((List.range n).map TX).length = n := by simp
    exact ⟨B, cb, by rw [e], by rw [e]; exact h, a⟩)
  have hEn : E.length = n := hE.1
  obtain ⟨w1, hw1, XB, b1⟩ : ∃ w1, w.alloc (.cells #[.slice RA rn rc, .slice A n c] 33) = w1 ∧ Box w1 w.heap.size [.slice RA rn rc, .slice A n c] ∧ Below w.heap.size w w1 := ⟨_, rfl, Box.new _ _ [.slice RA rn rc, .slice A n c], (Below.refl _ _).alloc (Nat.le_refl _) _⟩
  have HE := Lib.hid (hE.on b1); have HEN := Lib.hid hEn; have HXB := Lib.hid XB; have B1 := Lib.hid b1; have HW1 := Lib.hid hw1
  have HAH := Lib.hid hAh; have HF := Lib.hid hF; have HR := Lib.hid hR; have HV := Lib.hid hV; have HT := Lib.hid hT; have HTX := Lib.hid hTX
  obtain ⟨x0, x1⟩ := pb2 XB
  have hsx := XB.1
  clear hE hEn XB b1 hw1 hQ hAh hF hR hV hT hTX
  go_enter Tryz.func15, Tryz.ntmps15
  go_upto_region 1 with fail
  rw [HW1.out]
  clear HW1 x0 x1 hsx
  go_wp2_with fail
  go_loopw [3, 4] (fun v i wx => ∃ k : Nat, i = .int .i64 k ∧ k ≤ n ∧ Hid (wx.ownsRow w1.heap.size 9 strR.k v k (strR.cells ((List.range k).map TX))) ∧ Hid (Below w1.heap.size w1 wx)) (fun _ i _ => n - (intOf i).toNat)
  case atStart => exact ⟨0, rfl, Nat.zero_le _, Lib.hid (World.ownsRow_nil _ _ _ _), Lib.hid (Below.refl _ _)⟩
  case round =>
    obtain ⟨k, rfl, hk, I1, I2⟩ := hrel
    obtain ⟨wo, hwo⟩ : ∃ wo, wo = wr := ⟨_, rfl⟩
    subst hwo
    obtain ⟨LA, lc, rfl, -, hlc, sl⟩ := slr_of_own I1.out (by simp)
    have HSL := Lib.hid sl
    have XBo := HXB.out.on I2.out
    have HXBo := Lib.hid XBo
    obtain ⟨x0, x1⟩ := pb2 XBo
    have hsx := XBo.1
    clear sl XBo
    by_cases hkn : k < n
    · have gk : (k : Int) < (n : Int) := by omega
      have hkE : k < E.length := by rw [HEN.out]; exact hkn
      obtain ⟨x, hxk⟩ : ∃ x, E[k] = x := ⟨_, rfl⟩
      have hx : E[k]? = some x := by rw [List.getElem?_eq_getElem hkE, hxk]
      have hxm : x ∈ E := List.mem_of_getElem? hx
      have htell := PShow.tell_tx HAH.out HF.out hx (HR.out x hxm)
      rw [HTX.out] at htell
      obtain ⟨f, hf⟩ := HF.out k x hx
      have hall := PShow.form_all hf
      have hrng := HR.out x hxm
      have hval := HV.out x hxm
      obtain ⟨ab, ao, rfl, cE⟩ := (HE.out.on I2.out).at hkn
      have cx := cE k hkE
      rw [hxk] at cx
      obtain ⟨op, nm, vl, ya, yb, yc⟩ := x
      have l0 : wo.cell? ⟨ab, ao + k * 6, none⟩ = some (.string ⟨op.toArray⟩) := cx 0 _ rfl
      have l1 : wo.cell? ⟨ab, ao + k * 6 + 1, none⟩ = some (.string ⟨nm.toArray⟩) := cx 1 _ rfl
      have l2 : wo.cell? ⟨ab, ao + k * 6 + 2, none⟩ = some (.int .i64 vl) := cx 2 _ rfl
      have l3 : wo.cell? ⟨ab, ao + k * 6 + 3, none⟩ = some (.int .i64 ya) := cx 3 _ rfl
      have l4 : wo.cell? ⟨ab, ao + k * 6 + 4, none⟩ = some (.int .i64 yb) := cx 4 _ rfl
      have l5 : wo.cell? ⟨ab, ao + k * 6 + 5, none⟩ = some (.int .i64 yc) := cx 5 _ rfl
      obtain ⟨w9, hw9, SB, b9⟩ : ∃ w9, wo.alloc (.cells #[.string { data := #[] }, .string { data := #[] }, .int .i64 0, .int .i64 0, .int .i64 0, .int .i64 0] 103) = w9 ∧ Box w9 wo.heap.size [.string { data := #[] }, .string { data := #[] }, .int .i64 0, .int .i64 0, .int .i64 0, .int .i64 0] ∧ Below wo.heap.size wo w9 := ⟨_, rfl, Box.new _ _ [.string { data := #[] }, .string { data := #[] }, .int .i64 0, .int .i64 0, .int .i64 0, .int .i64 0], (Below.refl _ _).alloc (Nat.le_refl _) _⟩
      obtain ⟨w10, hw10, X10, ON10⟩ := store6 SB (.string ⟨op.toArray⟩) (.string ⟨nm.toArray⟩) (.int .i64 vl) (.int .i64 ya) (.int .i64 yb) (.int .i64 yc)
      have b10 : Below wo.heap.size wo w10 := ON10.below (Nat.le_refl _) b9
      obtain ⟨u0, u1, u2, u3, u4, u5⟩ := box6 X10
      have hs10 := X10.1
      obtain ⟨s0, s1, s2, s3, s4, s5⟩ := box6 SB
      obtain ⟨m0, m1, m2, m3, m4, m5⟩ := box6f SB
      have hs9 := SB.1
      obtain ⟨w11, hw11, Y11, b11⟩ : ∃ w11, w10.alloc (.cells #[.int .i64 ya, .int .i64 yb, .int .i64 yc] 3) = w11 ∧ Box w11 w10.heap.size [.int .i64 ya, .int .i64 yb, .int .i64 yc] ∧ Below w10.heap.size w10 w11 := ⟨_, rfl, Box.new _ _ [.int .i64 ya, .int .i64 yb, .int .i64 yc], (Below.refl _ _).alloc (Nat.le_refl _) _⟩
      have b1011 := below_step b10 b11
      have HX11 := Lib.hid (X10.on b11); have HY11 := Lib.hid Y11; have HB11 := Lib.hid b1011
      have HXB11 := Lib.hid (HXBo.out.on b1011); have HSL11 := Lib.hid (HSL.out.on b1011); have HE11 := Lib.hid ((HE.out.on I2.out).on b1011)
      have HL11 := Lib.hid (own_kept I1.out b1011)
      have HW10 := Lib.hid hw10; have HW11 := Lib.hid hw11
      have HTELL := Lib.hid htell; have HALL := Lib.hid hall; have HRNG := Lib.hid hrng; have HVAL := Lib.hid hval
      clear hx hxm cE cx hxk hkE X10 ON10 b9 b10 b11 b1011 SB hw10 hw11 I1 Y11 htell hf hall hrng hval HXBo HSL
      go_upto_region 6 with fail
      rw [HW10.out]
      clear HW10 hw9 s0 s1 s2 s3 s4 s5 m0 m1 m2 m3 m4 m5 hs9 l0 l1 l2 l3 l4 l5 x0 x1 hsx
      go_wp2_with fail
      rw [HW11.out]
      clear HW11 u0 u1 u2 u3 u4 u5 hs10
      obtain ⟨t1, ht1⟩ : ∃ t1, tN E k ya = t1 := ⟨_, rfl⟩
      obtain ⟨t2, ht2⟩ : ∃ t2, tN E k yb = t2 := ⟨_, rfl⟩
      obtain ⟨t3, ht3⟩ : ∃ t3, tN E k yc = t3 := ⟨_, rfl⟩
      obtain ⟨n1, hn1⟩ : ∃ n1, lN E k ya = n1 := ⟨_, rfl⟩
      obtain ⟨n2, hn2⟩ : ∃ n2, lN E k yb = n2 := ⟨_, rfl⟩
      obtain ⟨n3, hn3⟩ : ∃ n3, lN E k yc = n3 := ⟨_, rfl⟩
      have HPL : Hid (∀ (j : Nat) (p : Int), ([ya, yb, yc] : List Int)[j]? = some p → ([t1, t2, t3] : List (List UInt8)).take (j + 1) = ([t1, t2, t3] : List (List UInt8)).take j ++ [tN E k p] ∧ ([(n1 : Int), (n2 : Int), (n3 : Int)] : List Int).take (j + 1) = ([(n1 : Int), (n2 : Int), (n3 : Int)] : List Int).take j ++ [((lN E k p : Nat) : Int)]) := Lib.hid (by
        intro j p hp
        match j, hp with
        | 0, hp => cases hp; rw [ht1, hn1]; exact ⟨rfl, rfl⟩
        | 1, hp => cases hp; rw [ht2, hn2]; exact ⟨rfl, rfl⟩
        | 2, hp => cases hp; rw [ht3, hn3]; exact ⟨rfl, rfl⟩)
      have hle : ∀ p, (tN E k p).length ≤ 5000 ∧ lN E k p ≤ 4 := by
        intro p
        unfold PShow.tN PShow.lN
        rw [HTX.out]
        by_cases h : 0 ≤ p ∧ p < (k : Int)
        · rw [if_pos h, if_pos h]
          refine ⟨HT.out _ (by omega), ?_⟩
          cases E[p.toNat]? with
          | none => exact Nat.zero_le _
          | some y => exact lev_le _
        · rw [if_neg h, if_neg h]; exact ⟨Nat.zero_le _, Nat.zero_le _⟩
      have HLE : Hid ((t1.length ≤ 5000 ∧ t2.length ≤ 5000 ∧ t3.length ≤ 5000) ∧ n1 ≤ 4 ∧ n2 ≤ 4) := Lib.hid (by
        rw [← ht1, ← ht2, ← ht3, ← hn1, ← hn2]
        exact ⟨⟨(hle _).1, (hle _).1, (hle _).1⟩, (hle _).2, (hle _).2⟩)
      have HTL : Hid (tell ⟨op, nm, vl, ya, yb, yc⟩ t1 t2 t3 n1 n2 = TX k) := Lib.hid (by rw [← ht1, ← ht2, ← ht3, ← hn1, ← hn2]; exact HTELL.out)
      clear HTELL ht1 ht2 ht3 hn1 hn2 hn3 hle
      go_loopw [6, 7, 33] (fun tv nv i wy => ∃ j : Nat, i = .int .i64 j ∧ j ≤ 3 ∧ Hid (wy.ownsRow w11.heap.size 9 strR.k tv j (strR.cells (([t1, t2, t3] : List (List UInt8)).take j))) ∧ Hid (wy.ownsRow w11.heap.size 3 intR.k nv j (intR.cells (([(n1 : Int), (n2 : Int), (n3 : Int)] : List Int).take j))) ∧ Hid (Below w11.heap.size w11 wy)) (fun _ _ i _ => 3 - (intOf i).toNat)
      case atStart => exact ⟨0, rfl, Nat.zero_le _, Lib.hid (World.ownsRow_nil _ _ _ _), Lib.hid (World.ownsRow_nil _ _ _ _), Lib.hid (Below.refl _ _)⟩
      case round =>
        obtain ⟨j, rfl, hj, J1, J2, J3⟩ := hrel
        by_cases hj3 : j < 3
        · have gj : (j : Int) < 3 := by omega
          obtain ⟨p, hp⟩ : ∃ p, ([ya, yb, yc] : List Int)[j]? = some p := ⟨_, List.getElem?_eq_getElem (by simpa using hj3)⟩
          obtain ⟨hp1, hp2⟩ := HPL.out j p hp
          have hpv : ([.int .i64 ya, .int .i64 yb, .int .i64 yc] : List Value)[j]? = some (.int .i64 p) := by
            have h : (([ya, yb, yc] : List Int).map (Value.int .i64))[j]? = some (.int .i64 p) := by rw [List.getElem?_map, hp]; rfl
            exact h
          have cp : wr.cell? ⟨w10.heap.size, j, none⟩ = some (.int .i64 p) := (HY11.out.on J3.out).c j hpv
          have hsy := World.block_lt_of_cell? wr _ cp
          have hSZ := Lib.hid (J3.out.size)
          clear hp hpv hj
          by_cases hpa : 0 ≤ p ∧ p < (k : Int)
          · obtain ⟨q, rfl⟩ : ∃ q : Nat, p = q := ⟨p.toNat, by omega⟩
            have hqk : q < k := by omega
            have hqn : q < n := by omega
            have htn : tN E k (q : Int) = TX q := by rw [PShow.tN_ahead hpa, HTX.out, Int.toNat_natCast]
            have hqE : q < E.length := by rw [HEN.out]; exact hqn
            obtain ⟨y, hy⟩ : ∃ y, E[q] = y := ⟨_, rfl⟩
            have hln : lN E k (q : Int) = PShow.lev y.op := by
              unfold PShow.lN
              rw [if_pos hpa, Int.toNat_natCast, List.getElem?_eq_getElem hqE, hy]
            rw [htn] at hp1
            rw [hln] at hp2
            obtain ⟨yop, ynm, yvl, za, zb, zc⟩ := y
            obtain ⟨lb, lo, rfl, -⟩ := (HSL11.out.on J3.out).at hqk
            have cl : wr.cell? ⟨lb, lo + q, none⟩ = some (.string ⟨(TX q).toArray⟩) := str_cell (HSL11.out.on J3.out) hqk (by rw [List.getElem?_map, List.getElem?_range hqk]; rfl)
            obtain ⟨ab', ao', e0, cE⟩ := (HE11.out.on J3.out).at hqn
            cases e0
            have cy := cE q hqE
            rw [hy] at cy
            have ce : wr.cell? ⟨ab, ao + q * 6, none⟩ = some (.string ⟨yop.toArray⟩) := cy 0 _ rfl
            obtain ⟨x0, x1⟩ := pb2 (HXB11.out.on J3.out)
            have hs1 := World.block_lt_of_cell? wr _ cl; have hs2 := World.block_lt_of_cell? wr _ ce; have hs3 := World.block_lt_of_cell? wr _ x1
            obtain ⟨lv, hlv⟩ : ∃ lv, PShow.lev yop = lv := ⟨_, rfl⟩
            have CX := r9level_any yop wr.drew
            rw [hlv] at CX
            rw [show PShow.lev (Xp.mk yop ynm yvl za zb zc).op = lv from hlv] at hp2
            have ZZ : wr.drew.cell? ⟨lb, lo + q, none⟩ = some (.string ⟨(TX q).toArray⟩) ∧ wr.drew.cell? ⟨ab, ao + q * 6, none⟩ = some (.string ⟨yop.toArray⟩) ∧ wr.drew.cell? ⟨w.heap.size, 1, none⟩ = some (.slice (some ⟨ab, ao, none⟩) n c) := ⟨cl, ce, x1⟩
            have BD : Below wr.heap.size wr wr.drew := (Below.refl _ _).drew
            have HBD := Lib.hid BD
            have gq : (q : Int) < (k : Int) := by omega
            have gq0 : (0 : Int) ≤ (q : Int) := by omega
            have gqn : (q : Int) < (n : Int) := by omega
            have HP1 := Lib.hid hp1; have HP2 := Lib.hid hp2
            obtain ⟨xq, hxq⟩ : ∃ xq, TX q = xq := ⟨_, rfl⟩
            rw [hxq] at HP1 ZZ cl
            clear BD cE cy hy htn hln hpa hp1 hp2 hlv hxq hqE
            go_upto_region 13 with fail
            go_region_held3 (fun w' => w'.cell? ⟨lb, lo + q, none⟩ = some (.string ⟨xq.toArray⟩) ∧ w'.cell? ⟨ab, ao + q * 6, none⟩ = some (.string ⟨yop.toArray⟩) ∧ w'.cell? ⟨w.heap.size, 1, none⟩ = some (.slice (some ⟨ab, ao, none⟩) n c))
              (first
                | with_reducible exact ZZ
                | with_reducible exact Z4)
              (first
                | (go_at_call 42; (with_reducible refine CX.mono ?_); intro e4 w4 h4; obtain ⟨rfl, b4⟩ := h4; have Z4 := keep3c b4 ZZ))
            have b04 := below_step HBD.out b4
            have OT4 := Lib.hid (own_kept J1.out b04); have ON4 := Lib.hid (own_kept J2.out b04)
            have B4 := Lib.hid (J3.out.trans (b04.mono J3.out.size))
            have S4 : Hid (w11.heap.size ≤ w4.heap.size) := Lib.hid (Nat.le_trans J3.out.size b04.size)
            clear ZZ Z4 CX b4 b04 cl ce x0 x1 hs1 hs2 hs3 cp hsy HBD J1 J2 J3 hSZ
            go_wp2_with (at_builtin; refine append_own1 doc_strTy rfl _ _ rfl w11.heap.size _ j (([t1, t2, t3] : List (List UInt8)).take j) xq (by rfl) OT4.out (by rfl) (by omega) S4.out ?_)
            intro v5 w5 ho5 hb5 hk5
            rw [← HP1.out] at ho5
            have ON5 := Lib.hid (own_stand ON4.out OT4.out (by decide) hk5)
            have OT5 := Lib.hid ho5
            have B5 := Lib.hid (B4.out.trans hb5)
            have S5 : Hid (w11.heap.size ≤ w5.heap.size) := Lib.hid (Nat.le_trans S4.out hb5.size)
            clear ho5 hb5 hk5 OT4 ON4 B4 S4
            go_wp2_with (at_builtin; refine append_own1 doc_intTy rfl _ _ rfl w11.heap.size _ j (([(n1 : Int), (n2 : Int), (n3 : Int)] : List Int).take j) ((lv : Nat) : Int) (by rfl) ON5.out (by rfl) (by omega) S5.out ?_)
            intro v6 w6 ho6 hb6 hk6
            rw [← HP2.out] at ho6
            have OT6 := Lib.hid (own_stand OT5.out ON5.out (by decide) hk6)
            have ON6 := Lib.hid ho6
            have B6 := Lib.hid (B5.out.trans hb6)
            clear ho6 hb6 hk6 OT5 ON5 B5 S5
            go_wp2_with fail
            exact ⟨⟨j + 1, rfl, by omega, OT6, ON6, B6⟩, by simp [intOf]; omega⟩
          · have htn : tN E k p = [] := by unfold PShow.tN; rw [if_neg hpa]
            have hln : lN E k p = 0 := by unfold PShow.lN; rw [if_neg hpa]
            rw [htn] at hp1
            rw [hln] at hp2
            have HP1 := Lib.hid hp1; have HP2 := Lib.hid hp2
            have S4 : Hid (w11.heap.size ≤ wr.heap.size) := Lib.hid J3.out.size
            have gg : (0 ≤ p → p < (k : Int)) → ¬ 0 ≤ p := fun h1 h2 => hpa ⟨h2, h1 h2⟩
            clear hp1 hp2 htn hln
            by_cases h0 : 0 ≤ p
            all_goals
              have g1 : (0 ≤ p ∧ ¬ p < (k : Int)) ∨ ¬ 0 ≤ p := by omega
              first
              | (have g2 : ¬ p < (k : Int) := by omega
                 clear gg hpa g1
                 go_wp2_with (at_builtin; refine append_own1 doc_strTy rfl _ _ rfl w11.heap.size _ j (([t1, t2, t3] : List (List UInt8)).take j) [] (by rfl) J1.out (by rfl) (by omega) S4.out ?_))
              | (clear gg hpa g1
                 go_wp2_with (at_builtin; refine append_own1 doc_strTy rfl _ _ rfl w11.heap.size _ j (([t1, t2, t3] : List (List UInt8)).take j) [] (by rfl) J1.out (by rfl) (by omega) S4.out ?_))
              intro v5 w5 ho5 hb5 hk5
              rw [← HP1.out] at ho5
              have ON5 := Lib.hid (own_stand J2.out J1.out (by decide) hk5)
              have OT5 := Lib.hid ho5
              have B5 := Lib.hid (J3.out.trans hb5)
              have S5 : Hid (w11.heap.size ≤ w5.heap.size) := Lib.hid (Nat.le_trans S4.out hb5.size)
              clear ho5 hb5 hk5 cp hsy hSZ J1 J2 J3 S4
              go_wp2_with (at_builtin; refine append_own1 doc_intTy rfl _ _ rfl w11.heap.size _ j (([(n1 : Int), (n2 : Int), (n3 : Int)] : List Int).take j) 0 (by rfl) ON5.out (by rfl) (by omega) S5.out ?_)
              intro v6 w6 ho6 hb6 hk6
              have ho6 : w6.ownsRow w11.heap.size 3 intR.k v6 (j + 1) (intR.cells (([(n1 : Int), (n2 : Int), (n3 : Int)] : List Int).take (j + 1))) := by rw [HP2.out]; exact ho6
              have OT6 := Lib.hid (own_stand OT5.out ON5.out (by decide) hk6)
              have ON6 := Lib.hid ho6
              have B6 := Lib.hid (B5.out.trans hb6)
              clear ho6 hb6 hk6 OT5 ON5 B5 S5
              go_wp2_with fail
              exact ⟨⟨j + 1, rfl, by omega, OT6, ON6, B6⟩, by simp [intOf]; omega⟩
        · obtain rfl : j = 3 := by omega
          obtain ⟨TA, tc, rfl, -, htc, st⟩ := slr_of_own J1.out rfl
          obtain ⟨NA, nc, rfl, -, hnc, sn⟩ := slr_of_own J2.out rfl
          obtain ⟨tb, tofs, rfl, -⟩ := st.at (i := 0) (by omega)
          obtain ⟨nb, nofs, rfl, -⟩ := sn.at (i := 0) (by omega)
          have c1 := str_cell st (q := 0) (by omega) rfl
          have c2 := str_cell st (q := 1) (by omega) rfl
          have c3 := str_cell st (q := 2) (by omega) rfl
          have d1 := int_cell sn (q := 0) (by omega) rfl
          have d2 := int_cell sn (q := 1) (by omega) rfl
          rw [Nat.add_zero] at c1 d1
          obtain ⟨u0, u1, u2, u3, u4, u5⟩ := box6 (HX11.out.on J3.out)
          have hs0 := World.block_lt_of_cell? wr _ c1; have hs1 := World.block_lt_of_cell? wr _ d1; have hs2 := World.block_lt_of_cell? wr _ u0
          have HLX := Lib.hid (own_kept HL11.out J3.out)
          have HBX := Lib.hid (I2.out.trans ((below_step HB11.out J3.out).mono I2.out.size))
          clear st sn J1 J2 J3 HPL HSL11 HE11 HXB11 HY11 HX11 HL11 HB11 I2 hj hj3
          have g3 : ¬ ((3 : Nat) : Int) < 3 := by omega
          go_upto_region 18 with fail
          clear g3
          go_upto_block 4 with fail
          obtain ⟨T, hTk⟩ : ∃ T, TX k = T := ⟨_, rfl⟩
          rw [hTk] at HTL
          have HTK := Lib.hid hTk
          clear hTk
          go_cut [12] (fun sv wx => sv = .string ⟨T.toArray⟩ ∧ Hid (Below wr.heap.size wr wx))
          case first =>
            have hop := HALL.out
            have hle := HLE.out
            obtain ⟨⟨z1, z2, z3⟩, y1, y2⟩ := hle
            have hrng := HRNG.out
            have hval := HVAL.out
            clear HALL HLE HRNG HVAL HLX HBX HTK HXB B1 HE HEN HAH HF HR HV HT HTX FIN
            have hop := PShow.ops_cmp hop
            simp only [PCheck.wholeS, PCheck.amountS, PCheck.rateS, PCheck.nameS, PCheck.negS, PCheck.ifS] at hop
            rcases hop with rfl | rfl | rfl | rfl | rfl | rfl | rfl | rfl | rfl | rfl | rfl | hop
            · as_aux_lemma =>
              have HT0 : Hid (Lib.decDigits vl.toNat = T) := Lib.hid HTL.out
              have h0 : 0 ≤ vl := hrng.1 rfl
              have CD := Lib.hid (show Calls Tryz.prog 43 #[.int .i64 vl] wr (TxtAns (Lib.decDigits vl.toNat) wr) from digits_any vl wr h0 hval)
              clear HTL hrng hval
              go_wp2_with (go_at_call 43; refine CD.out.mono ?_)
              intro e5 w5 h5
              obtain ⟨rfl, b5⟩ := h5
              have B5 := Lib.hid b5
              rw [HT0.out]
              clear b5 CD
              go_wp2_with fail
              go_meet
              exact ⟨rfl, B5⟩
            · as_aux_lemma =>
              have HT0 : Hid (PMoney.text vl = T) := Lib.hid HTL.out
              have h0 : vl.natAbs ≤ PMoney.MM := hrng.2.1 rfl
              have h1 : -9223372036854775807 ≤ vl := by unfold PMoney.MM at h0; omega
              have CD := Lib.hid (show Calls Tryz.prog 44 #[.int .i64 vl] wr (TxtAns (PMoney.text vl) wr) from reftext_any vl wr h1 hval)
              clear HTL hrng hval h0
              go_wp2_with (go_at_call 44; refine CD.out.mono ?_)
              intro e5 w5 h5
              obtain ⟨rfl, b5⟩ := h5
              have B5 := Lib.hid b5
              rw [HT0.out]
              clear b5 CD
              go_wp2_with fail
              go_meet
              exact ⟨rfl, B5⟩
            · as_aux_lemma =>
              have HT0 : Hid (PMoney.text vl ++ [37] = T) := Lib.hid HTL.out
              have h0 : 0 ≤ vl ∧ vl ≤ 10000 := hrng.2.2 rfl
              have CD := Lib.hid (show Calls Tryz.prog 44 #[.int .i64 vl] wr (TxtAns (PMoney.text vl) wr) from reftext_any vl wr (by omega) hval)
              have hl := (text_len vl (by omega) (by omega)).2
              obtain ⟨X, hX⟩ : ∃ X, PMoney.text vl = X := ⟨_, rfl⟩
              rw [hX] at CD HT0 hl
              clear HTL hrng hval h0 hX
              go_wp2_with (go_at_call 44; refine CD.out.mono ?_)
              intro e5 w5 h5
              obtain ⟨rfl, b5⟩ := h5
              have B5 := Lib.hid b5
              clear b5 CD
              go_wp2_with fail
              go_meet
              exact ⟨congrArg Value.string (by rw [← HT0.out]; exact ByteArray.mk_append_mk _ _), B5⟩
            · as_aux_lemma =>
              have HT0 : Hid (nm = T) := Lib.hid HTL.out
              clear HTL hrng hval
              go_wp2_with fail
              go_meet
              exact ⟨congrArg Value.string (by rw [← HT0.out]), Lib.hid (Below.refl _ _)⟩
            · as_aux_lemma =>
              have HT0 : Hid ([45] ++ PTree.heldB n1 4 t1 = T) := Lib.hid HTL.out
              have CH : Hid (∀ w : World, Calls Tryz.prog 45 #[.string ⟨t1.toArray⟩, .int .i64 (n1 : Int), .int .i64 4] w fun e w' => e = .returned (.string ⟨(PTree.heldB n1 4 t1).toArray⟩) ∧ w' = w) := Lib.hid (fun w => r9held_any (s := t1) (m := n1) (L := 4) (by omega) (by omega) (by omega) w)
              have hh := PShow.held_len n1 4 t1
              obtain ⟨r1, hr1⟩ : ∃ r1, PTree.heldB n1 4 t1 = r1 := ⟨_, rfl⟩
              rw [hr1] at CH hh HT0
              clear HTL hrng hval hr1
              go_upto_region 29 with fail
              go_quiet ((go_at_call 45; with_reducible exact Calls.quiet_of_same (CH.out _)))
              go_wp2_with fail
              go_meet
              exact ⟨congrArg Value.string (by rw [← HT0.out]; exact ByteArray.mk_append_mk _ _), Lib.hid (below_drewR _ _)⟩
            · as_aux_lemma =>
              have HT0 : Hid ([105, 102, 32] ++ t1 ++ [32, 116, 104, 101, 110, 32] ++ t2 ++ [32, 101, 108, 115, 101, 32] ++ t3 = T) := Lib.hid HTL.out
              clear HTL hrng hval
              go_upto_region 34 with fail
              go_quiet (fail)
              go_wp2_with fail
              go_meet
              exact ⟨congrArg Value.string (by rw [← HT0.out]; simp only [ByteArray.mk_append_mk]; (try rfl)), Lib.hid (below_drewR _ _)⟩
            iterate 2
              · as_aux_lemma =>
                have HT0 := HTL
                rw [PShow.tell_add (by first | exact .inl rfl | exact .inr rfl)] at HT0
                have CH1 : Hid (∀ w : World, Calls Tryz.prog 45 #[.string ⟨t1.toArray⟩, .int .i64 (n1 : Int), .int .i64 2] w fun e w' => e = .returned (.string ⟨(PTree.heldB n1 2 t1).toArray⟩) ∧ w' = w) := Lib.hid (fun w => r9held_any (s := t1) (m := n1) (L := 2) (by omega) (by omega) (by omega) w)
                have CH2 : Hid (∀ w : World, Calls Tryz.prog 45 #[.string ⟨t2.toArray⟩, .int .i64 (n2 : Int), .int .i64 3] w fun e w' => e = .returned (.string ⟨(PTree.heldB n2 3 t2).toArray⟩) ∧ w' = w) := Lib.hid (fun w => r9held_any (s := t2) (m := n2) (L := 3) (by omega) (by omega) (by omega) w)
                have hh1 := PShow.held_len n1 2 t1
                have hh2 := PShow.held_len n2 3 t2
                obtain ⟨r1, hr1⟩ : ∃ r1, PTree.heldB n1 2 t1 = r1 := ⟨_, rfl⟩
                obtain ⟨r2, hr2⟩ : ∃ r2, PTree.heldB n2 3 t2 = r2 := ⟨_, rfl⟩
                rw [hr1] at CH1 hh1 HT0
                rw [hr2] at CH2 hh2 HT0
                clear HTL hrng hval hr1 hr2
                go_upto_region 37 with fail
                go_quiet (first | (go_at_call 45; with_reducible exact Calls.quiet_of_same (CH1.out _)) | (go_at_call 45; with_reducible exact Calls.quiet_of_same (CH2.out _)))
                go_wp2_with fail
                go_meet
                exact ⟨congrArg Value.string (by rw [← HT0.out]; simp only [ByteArray.mk_append_mk]; (try rfl)), Lib.hid (below_drewR _ _)⟩
            · as_aux_lemma =>
              have HT0 : Hid (PTree.heldB n1 3 t1 ++ [32, 42, 32] ++ PTree.heldB n2 4 t2 = T) := Lib.hid HTL.out
              have CH1 : Hid (∀ w : World, Calls Tryz.prog 45 #[.string ⟨t1.toArray⟩, .int .i64 (n1 : Int), .int .i64 3] w fun e w' => e = .returned (.string ⟨(PTree.heldB n1 3 t1).toArray⟩) ∧ w' = w) := Lib.hid (fun w => r9held_any (s := t1) (m := n1) (L := 3) (by omega) (by omega) (by omega) w)
              have CH2 : Hid (∀ w : World, Calls Tryz.prog 45 #[.string ⟨t2.toArray⟩, .int .i64 (n2 : Int), .int .i64 4] w fun e w' => e = .returned (.string ⟨(PTree.heldB n2 4 t2).toArray⟩) ∧ w' = w) := Lib.hid (fun w => r9held_any (s := t2) (m := n2) (L := 4) (by omega) (by omega) (by omega) w)
              have hh1 := PShow.held_len n1 3 t1
              have hh2 := PShow.held_len n2 4 t2
              obtain ⟨r1, hr1⟩ : ∃ r1, PTree.heldB n1 3 t1 = r1 := ⟨_, rfl⟩
              obtain ⟨r2, hr2⟩ : ∃ r2, PTree.heldB n2 4 t2 = r2 := ⟨_, rfl⟩
              rw [hr1] at CH1 hh1 HT0
              rw [hr2] at CH2 hh2 HT0
              clear HTL hrng hval hr1 hr2
              go_upto_region 39 with fail
              go_quiet (first | (go_at_call 45; with_reducible exact Calls.quiet_of_same (CH1.out _)) | (go_at_call 45; with_reducible exact Calls.quiet_of_same (CH2.out _)))
              go_wp2_with fail
              go_meet
              exact ⟨congrArg Value.string (by rw [← HT0.out]; simp only [ByteArray.mk_append_mk]; (try rfl)), Lib.hid (below_drewR _ _)⟩
            iterate 2
              · as_aux_lemma =>
                have HT0 := HTL
                rw [PShow.tell_min (by first | exact .inl rfl | exact .inr rfl)] at HT0
                clear HTL hrng hval
                go_upto_region 32 with fail
                go_quiet (fail)
                go_wp2_with fail
                go_meet
                exact ⟨congrArg Value.string (by rw [← HT0.out]; simp only [ByteArray.mk_append_mk]; (try rfl)), Lib.hid (below_drewR _ _)⟩
            · as_aux_lemma =>
              have HT0 := HTL
              rw [PShow.tell_cmp hop] at HT0
              have e0 := PShow.cmp_ne (s := [119, 104, 111, 108, 101]) hop (by decide)
              have e1 := PShow.cmp_ne (s := [97, 109, 111, 117, 110, 116]) hop (by decide)
              have e2 := PShow.cmp_ne (s := [114, 97, 116, 101]) hop (by decide)
              have e3 := PShow.cmp_ne (s := [110, 97, 109, 101]) hop (by decide)
              have e4 := PShow.cmp_ne (s := [110, 101, 103]) hop (by decide)
              have e5 := PShow.cmp_ne (s := [109, 105, 110]) hop (by decide)
              have e6 := PShow.cmp_ne (s := [109, 97, 120]) hop (by decide)
              have e7 := PShow.cmp_ne (s := [105, 102]) hop (by decide)
              have e8 := PShow.cmp_ne (s := [43]) hop (by decide)
              have e9 := PShow.cmp_ne (s := [45]) hop (by decide)
              have e10 := PShow.cmp_ne (s := [42]) hop (by decide)
              have hol := PShow.cmp_len hop
              clear hop
              have CH1 : Hid (∀ w : World, Calls Tryz.prog 45 #[.string ⟨t1.toArray⟩, .int .i64 (n1 : Int), .int .i64 2] w fun e w' => e = .returned (.string ⟨(PTree.heldB n1 2 t1).toArray⟩) ∧ w' = w) := Lib.hid (fun w => r9held_any (s := t1) (m := n1) (L := 2) (by omega) (by omega) (by omega) w)
              have CH2 : Hid (∀ w : World, Calls Tryz.prog 45 #[.string ⟨t2.toArray⟩, .int .i64 (n2 : Int), .int .i64 2] w fun e w' => e = .returned (.string ⟨(PTree.heldB n2 2 t2).toArray⟩) ∧ w' = w) := Lib.hid (fun w => r9held_any (s := t2) (m := n2) (L := 2) (by omega) (by omega) (by omega) w)
              have hh1 := PShow.held_len n1 2 t1
              have hh2 := PShow.held_len n2 2 t2
              obtain ⟨r1, hr1⟩ : ∃ r1, PTree.heldB n1 2 t1 = r1 := ⟨_, rfl⟩
              obtain ⟨r2, hr2⟩ : ∃ r2, PTree.heldB n2 2 t2 = r2 := ⟨_, rfl⟩
              rw [hr1] at CH1 hh1 HT0
              rw [hr2] at CH2 hh2 HT0
              clear HTL hrng hval hr1 hr2
              go_upto_region 19 with fail
              go_quiet (first | (go_at_call 45; with_reducible exact Calls.quiet_of_same (CH1.out _)) | (go_at_call 45; with_reducible exact Calls.quiet_of_same (CH2.out _)))
              go_wp2_with fail
              go_meet
              exact ⟨congrArg Value.string (by rw [← HT0.out]; simp only [ByteArray.mk_append_mk]; (try rfl)), Lib.hid (below_drewR _ _)⟩
          case rest =>
            obtain ⟨rfl, hB⟩ := hcut
            have HO := Lib.hid (own_kept HLX.out hB.out)
            have HB2 := Lib.hid (HBX.out.trans (hB.out.mono HBX.out.size))
            have hsz : w1.heap.size ≤ wc.heap.size := HB2.out.size
            have HNX : Hid ((List.range (k + 1)).map TX = (List.range k).map TX ++ [T]) := Lib.hid (by rw [List.range_succ, List.map_append, ← HTK.out]; rfl)
            clear HLX HBX hB HTL HALL HRNG HVAL HLE c1 c2 c3 d1 d2 u0 u1 u2 u3 u4 u5 hs0 hs1 hs2
            go_wp2_with (at_builtin; refine append_own1 doc_strTy rfl _ _ rfl w1.heap.size _ k ((List.range k).map TX) T (by rfl) HO.out (by rfl) (by omega) hsz ?_)
            intro v5 w5 ho5 hb5 hk5
            rw [← HNX.out] at ho5
            have O5 := Lib.hid ho5
            have B5 := Lib.hid (HB2.out.trans hb5)
            clear ho5 hb5 hk5 HO HB2 hsz
            go_wp2_with fail
            exact ⟨⟨k + 1, rfl, by omega, O5, B5⟩, by simp [intOf]; omega⟩
    · obtain rfl : k = n := by omega
      have htl := HSL
      clear hkn
      have gk : ¬ (k : Int) < (k : Int) := by omega
      go_wp2_with fail
      exact FIN.out _ _ _ HSL.out (B1.out.trans (I2.out.mono B1.out.size))
end Go.Proofs.YtfihdbnecepmfaaGreatDoor

set_option linter.unusedVariables false
namespace Go.Proofs.YtfihdbnecepmfaaGreatDoor
open Go.RowKit
open PCheck (Xp)

theorem lines_app (E : List Xp) : ∀ (a b : List Rw), PShow.linesTx E (a ++ b) = PShow.linesTx E a ++ PShow.linesTx E b
  | [], _ => rfl
  | r :: rs, b => by
    simp only [List.cons_append, PShow.linesTx]
    rw [lines_app E rs b]
    simp
theorem lines_take {E : List Xp} {RL : List Rw} {k : Nat} {a b : List UInt8} {r : Int} (h : RL[k]? = some (a, b, r)) : PShow.linesTx E (RL.take (k + 1)) = PShow.linesTx E (RL.take k) ++ a ++ [32] ++ b ++ [32, 61, 32] ++ PShow.tx E r.toNat ++ [59, 10] := by
  rw [List.take_add_one, h, lines_app]
  simp [PShow.linesTx]
theorem lines_mono (E : List Xp) (RL : List Rw) (k : Nat) : (PShow.linesTx E (RL.take k)).length ≤ (PShow.linesTx E RL).length := by
  conv => rhs; rw [← List.take_append_drop k RL, lines_app, List.length_append]
  omega
set_option maxHeartbeats 12800000 in
set_option maxRecDepth 100000 in
theorem r9text_any {w : World} {n c rn rc : Nat} {A RA : Option Addr} {E : List Xp} {RL : List Rw} (hRL : SlX rlR w RA rn RL) (hE : SlX xpR w A n E) (hAh : PShow.Ahead E) (hF : ∀ (k : Nat) (x : Xp), E[k]? = some x → ∃ f, PShow.formOf x.op = some f)
    (hR : ∀ x ∈ E, PShow.Rng x.op x.value) (hV : ∀ x ∈ E, x.value ≤ 9223372036854775807) (hT : ∀ k, k < n → (PShow.tx E k).length ≤ 5000) (hn9 : n ≤ 1000) (hrn : rn ≤ 1000) (hro : ∀ r ∈ RL, 0 ≤ r.2.2 ∧ r.2.2 < (n : Int)) (hlen : (PShow.linesTx E RL).length ≤ 5000) :
    Calls Tryz.prog 14 #[.agg #[.slice RA rn rc, .slice A n c]] w (TxtAns (PShow.linesTx E RL) w) := by
  obtain ⟨Q, hQ⟩ : ∃ Q, TxtAns (PShow.linesTx E RL) w = Q := ⟨_, rfl⟩
  rw [hQ]
  obtain ⟨Z, hZ⟩ : ∃ Z, PShow.linesTx E RL = Z := ⟨_, rfl⟩
  have FIN : Hid (∀ (t : List UInt8) (w' : World), t = Z → Below w.heap.size w w' → Q (.returned (.string ⟨t.toArray⟩)) w') := Lib.hid (fun t w' e a => by rw [← hQ, e, ← hZ]; exact ⟨rfl, a⟩)
  obtain ⟨w1, hw1, XB, b1⟩ : ∃ w1, w.alloc (.cells #[.slice RA rn rc, .slice A n c] 33) = w1 ∧ Box w1 w.heap.size [.slice RA rn rc, .slice A n c] ∧ Below w.heap.size w w1 := ⟨_, rfl, Box.new _ _ [.slice RA rn rc, .slice A n c], (Below.refl _ _).alloc (Nat.le_refl _) _⟩
  have CT := Lib.hid (r9texts_any (c := c) (RA := RA) (rn := rn) (rc := rc) (hE.on b1) hAh hF hR hV hT hn9)
  obtain ⟨TX, hTX⟩ : ∃ TX, PShow.tx E = TX := ⟨_, rfl⟩
  rw [hTX] at CT hT
  obtain ⟨TL, hTL⟩ : ∃ TL, (List.range n).map TX = TL := ⟨_, rfl⟩
  rw [hTL] at CT
  have hTLn : TL.length = n := by rw [← hTL]; simp
  have HRL := Lib.hid (hRL.on b1); have HXB := Lib.hid XB; have B1 := Lib.hid b1; have HW1 := Lib.hid hw1; have HT := Lib.hid hT; have HTX := Lib.hid hTX; have HTL := Lib.hid hTL; have HTLN := Lib.hid hTLn
  have HRO := Lib.hid hro; have HZ := Lib.hid hZ; have HLEN := Lib.hid (hZ ▸ hlen)
  obtain ⟨x0, x1⟩ := pb2 XB
  have hsx := XB.1
  clear hRL hE hAh hF hR hV hT hro hlen hZ hTX hTL hTLn XB b1 hw1 hQ
  go_enter Tryz.func14, Tryz.ntmps14
  go_upto_region 1 with fail
  rw [HW1.out]
  clear HW1
  go_wp2_with (go_at_call 15; refine CT.out.mono ?_)
  intro e2 w2 h2
  obtain ⟨LA, lc, rfl, s2, b2⟩ := h2
  rw [HTLN.out] at s2 ⊢
  have HS2 := Lib.hid s2; have HRL2 := Lib.hid (HRL.out.on b2); have B2 := Lib.hid (below_step B1.out b2)
  obtain ⟨x0, x1⟩ := pb2 (HXB.out.on b2)
  have hsx := (HXB.out.on b2).1
  have hRLn : RL.length = rn := HRL.out.1
  have HRN := Lib.hid hRLn
  clear s2 b2 CT HRL B1 hRLn
  go_wp2_with fail
  go_loopw [4, 12] (fun sv i wx => ∃ k : Nat, i = .int .i64 k ∧ k ≤ rn ∧ sv = .string ⟨(PShow.linesTx E (RL.take k)).toArray⟩ ∧ Hid (Below w2.heap.size w2 wx)) (fun _ i _ => rn - (intOf i).toNat)
  case atStart => exact ⟨0, rfl, Nat.zero_le _, rfl, Lib.hid (Below.refl _ _)⟩
  case round =>
    obtain ⟨k, rfl, hk, rfl, I1⟩ := hrel
    clear x0 x1 hsx
    by_cases hkn : k < rn
    · have gk : (k : Int) < (rn : Int) := by omega
      have hkR : k < RL.length := by rw [HRN.out]; exact hkn
      obtain ⟨⟨ra, rb, rr⟩, hr⟩ : ∃ r, RL[k] = r := ⟨_, rfl⟩
      have hr1 : RL[k]? = some (ra, rb, rr) := by rw [List.getElem?_eq_getElem hkR, hr]
      have hstep := lines_take (E := E) hr1
      obtain ⟨ho1, ho2⟩ := HRO.out _ (List.mem_of_getElem? hr1)
      obtain ⟨q, rfl⟩ : ∃ q : Nat, rr = q := ⟨rr.toNat, by have : (0 : Int) ≤ rr := ho1; omega⟩
      have hqn : q < n := by have : (q : Int) < (n : Int) := ho2; omega
      rw [HTX.out, Int.toNat_natCast] at hstep
      have hle := lines_mono E RL (k + 1)
      rw [hstep, HZ.out] at hle
      have hlz := HLEN.out
      simp only [List.length_append, List.length_cons, List.length_nil] at hle
      obtain ⟨ab, ao, rfl, cE⟩ := (HRL2.out.on I1.out).at hkn
      have cx := cE k hkR
      rw [hr] at cx
      have l0 : wr.cell? ⟨ab, ao + k * 3, none⟩ = some (.string ⟨ra.toArray⟩) := cx 0 _ rfl
      have l1 : wr.cell? ⟨ab, ao + k * 3 + 1, none⟩ = some (.string ⟨rb.toArray⟩) := cx 1 _ rfl
      have l2 : wr.cell? ⟨ab, ao + k * 3 + 2, none⟩ = some (.int .i64 (q : Int)) := cx 2 _ rfl
      obtain ⟨lb, lo, rfl, -⟩ := (HS2.out.on I1.out).at hqn
      have ct : wr.cell? ⟨lb, lo + q, none⟩ = some (.string ⟨(TX q).toArray⟩) := str_cell (HS2.out.on I1.out) hqn (by rw [← HTL.out, List.getElem?_map, List.getElem?_range hqn]; rfl)
      obtain ⟨w9, hw9, SB, b9⟩ : ∃ w9, wr.alloc (.cells #[.string { data := #[] }, .string { data := #[] }, .int .i64 0] 92) = w9 ∧ Box w9 wr.heap.size [.string { data := #[] }, .string { data := #[] }, .int .i64 0] ∧ Below wr.heap.size wr w9 := ⟨_, rfl, Box.new _ _ [.string { data := #[] }, .string { data := #[] }, .int .i64 0], (Below.refl _ _).alloc (Nat.le_refl _) _⟩
      obtain ⟨w10, hw10, X10, ON10⟩ := st3x SB (.string ⟨ra.toArray⟩) (.string ⟨rb.toArray⟩) (.int .i64 (q : Int))
      have b10 : Below wr.heap.size wr w10 := ON10.below (Nat.le_refl _) b9
      have ct10 := (b10.cell (World.block_lt_of_cell? wr _ ct)).trans ct
      have ht10 := World.block_lt_of_cell? w10 _ ct10
      obtain ⟨u0, u1, u2⟩ := bx3 X10
      have hs10 := X10.1
      obtain ⟨s0, s1, s2⟩ := bx3 SB
      obtain ⟨m0, m1, m2⟩ := bx3f SB
      have hs9 := SB.1
      obtain ⟨L0, hL0⟩ : ∃ L0, PShow.linesTx E (RL.take k) = L0 := ⟨_, rfl⟩
      obtain ⟨Tq, hTq⟩ : ∃ Tq, TX q = Tq := ⟨_, rfl⟩
      rw [hL0, hTq] at hstep hle
      rw [hTq] at ct10
      have HB10 := Lib.hid (I1.out.trans (b10.mono I1.out.size)); have HW10 := Lib.hid hw10
      have HST := Lib.hid hstep
      have gqn : (q : Int) < (n : Int) := by omega
      clear hr hr1 ho1 ho2 cE cx X10 ON10 b9 b10 SB hw10 ct hTq hstep
      go_upto_region 6 with fail
      rw [HW10.out, hL0]
      clear HW10 hw9 s0 s1 s2 m0 m1 m2 hs9 l0 l1 l2 hL0
      go_quiet (fail)
      have HBQ := Lib.hid (HB10.out.trans ((below_drewR w10 nq).mono HB10.out.size))
      go_wp2_with fail
      exact ⟨⟨k + 1, rfl, by omega, congrArg Value.string (by rw [HST.out]; simp only [ByteArray.mk_append_mk]; (try rfl)), HBQ⟩, by simp [intOf]; omega⟩
    · obtain rfl : k = rn := by omega
      have hz : PShow.linesTx E (RL.take k) = Z := by rw [List.take_of_length_le (by rw [HRN.out]; exact Nat.le_refl _)]; exact HZ.out
      have gk : ¬ (k : Int) < (k : Int) := by omega
      have HZZ := Lib.hid hz
      clear hz hkn
      go_wp2_with fail
      exact FIN.out _ _ HZZ.out (B2.out.trans (I1.out.mono B2.out.size))
end Go.Proofs.YtfihdbnecepmfaaGreatDoor
