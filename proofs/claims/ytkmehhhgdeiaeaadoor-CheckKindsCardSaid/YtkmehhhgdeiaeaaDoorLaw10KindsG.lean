/-
  CheckKinds answers true, where awake does.
-/
import Derived.Test.YtkmehhhgdeiaeaaDoorLaw10SmallG
import Derived.Test.YtkmehhhgdeiaeaaDoorLaw10NamesG
import Derived.Test.YtkmehhhgdeiaeaaDoorLaw10RefsG
import Derived.Test.YtkmehhhgdeiaeaaDoorRef10KindG
namespace Go.Proofs.YtkmehhhgdeiaeaaDoor
open Go.RowKit
open PCheck (Xp Bd)

set_option maxHeartbeats 6400000 in
set_option maxRecDepth 100000 in
theorem kinds_walk (HA : Aw10) {w : World} {RA A LA : Option Addr} {rn rc n c ln lc : Nat} {rows : List Rl10} {E : List Xp} {l : List Bd} {a : Int} (hR : SlX rlR w RA rn rows) (hE : SlX xpR w A n E) (hL : SlX bdR w LA ln l) (hr : rn * 40 ≤ 2 ^ 47) (hc : n ≤ c)
    (hs : ∀ x ∈ E, x.name.length ≤ maxLen ∧ x.op.length ≤ maxLen) (hs2 : ∀ x ∈ rows, x.name.length ≤ maxLen ∧ x.kind.length ≤ maxLen) (hln : ∀ b ∈ l, b.name.length ≤ maxLen) (hll : (ln : Int) ≤ 9223372036854775807) (hnn : (n : Int) ≤ 9223372036854775807) :
    Calls Tryd.prog 3 #[.agg #[.slice RA rn rc, .slice A n c], .int .i64 a, .slice LA ln lc] w (TrueB w) := by
  obtain ⟨Q, hQ⟩ : ∃ Q, TrueB w = Q := ⟨_, rfl⟩
  rw [hQ]
  have HQ := Lib.hid hQ; have HAh := Lib.hid HA
  obtain ⟨w1, hw1, XB, b1⟩ : ∃ w1, w.alloc (.cells #[.slice RA rn rc, .slice A n c] 25) = w1 ∧ Box w1 w.heap.size [.slice RA rn rc, .slice A n c] ∧ Below w.heap.size w w1 := ⟨_, rfl, Box.new _ _ [.slice RA rn rc, .slice A n c], (Below.refl _ _).alloc (Nat.le_refl _) _⟩
  have HW1 := Lib.hid hw1; have B1 := Lib.hid b1
  have HR := Lib.hid (hR.on b1); have HE := Lib.hid (hE.on b1); have HL := Lib.hid (hL.on b1)
  have HXB := Lib.hid XB
  obtain ⟨x0, x1⟩ := bx2 XB
  have hsx := XB.1
  have hEl : E.length = n := hE.1
  clear hw1 b1 XB hE hL hR hQ HA
  have FIN : Hid (∀ w2 w3, Below w1.heap.size w1 w2 → Below w2.heap.size w2 w3 → Q (.returned (.bool true)) w3) := Lib.hid (fun w2 w3 h2 h3 => by rw [← HQ.out]; exact ⟨rfl, below_step (below_step B1.out h2) h3⟩)
  by_cases g1 : (300 : Int) < (n : Int)
  · go_enter Tryd.func3, Tryd.ntmps3
    go_upto_region 1 with fail
    rw [HW1.out]
    go_wp2_with fail
    refine (HAh.out _).mono ?_
    rintro _ w3 ⟨rfl, b3⟩
    go_wp2_with fail
    exact FIN.out _ _ (Below.refl _ _) b3
  have RF : Hid (∀ wx, Below w1.heap.size w1 wx → Calls Tryd.prog 10 #[.agg #[.slice RA rn rc, .slice A n c]] wx fun e w' => ∃ A' ca' B' cb', e = .returned (.agg #[.slice A' rn ca', .slice B' n cb']) ∧ SlX rlR w' A' rn rows ∧ SlX xpR w' B' n E ∧ Below wx.heap.size wx w') := Lib.hid (fun wx h => by
    have hR2 := HR.out.on h; have hE2 := HE.out.on h
    obtain rfl := hR2.1
    obtain rfl := hE2.1
    exact (tref_any hR2 hE2 hr (by omega)).mono fun _ _ ⟨A', ca', B', cb', h1, h2, h3, _, _, h8⟩ => ⟨A', ca', B', cb', h1, h2, h3, h8⟩)
  go_enter Tryd.func3, Tryd.ntmps3
  go_upto_region 1 with fail
  rw [HW1.out]
  clear HW1
  go_wp2_with fail
  refine (RF.out _ (Below.refl _ _)).mono ?_
  rintro _ w2 ⟨A2, ca2, B2, cb2, rfl, hr2, he2, b2⟩
  have SM := Lib.hid (small_any (ca := ca2) (cb := cb2) hr2 he2 hs hs2)
  have XB2 := HXB.out.on b2
  obtain ⟨y0, y1⟩ := bx2 XB2
  have hsy := XB2.1
  have HXB2 := Lib.hid XB2
  have C2 := Lib.hid b2
  clear hr2 he2 b2 XB2 HXB x0 x1 hsx hs hs2
  go_wp2_with fail
  refine SM.out.mono ?_
  rintro _ w3 ⟨b, rfl, hb, b3⟩
  have XB3 := HXB2.out.on b3
  obtain ⟨z0, z1⟩ := bx2 XB3
  have hsz := XB3.1
  have HXB3 := Lib.hid XB3
  have C3 := Lib.hid (below_step C2.out b3)
  have HB := Lib.hid hb
  clear b3 XB3 HXB2 y0 y1 hsy SM HR hb C2
  have hAw : Hid (∀ wa, Below w1.heap.size w1 wa → Calls Tryd.prog 11 #[] wa fun e w' => e = .returned (.bool true) ∧ Q (.returned (.bool true)) w') := Lib.hid (fun wa h => (HAh.out wa).mono fun _ _ ⟨h1, h2⟩ => ⟨h1, FIN.out _ _ h h2⟩)
  cases b with
  | false =>
    go_wp2_with fail
    refine (hAw.out _ C3.out).mono ?_
    rintro _ w4 ⟨rfl, b4⟩
    go_wp2_with fail
    exact b4
  | true =>
    obtain ⟨hb1, hb2, hb3⟩ := HB.out rfl
    by_cases g2 : (60 : Int) < (ln : Int)
    · go_wp2_with fail
      refine (hAw.out _ C3.out).mono ?_
      rintro _ w4 ⟨rfl, b4⟩
      go_wp2_with fail
      exact b4
    have hxn : ∀ x ∈ E, x.name.length ≤ maxLen := fun x hx => Nat.le_trans (hb3 x hx) (by unfold maxLen; omega)
    have KD := Lib.hid (kKind_any (TA := RA) (tn := rn) (tc := rc) (lc := lc) (r := a) (HE.out.on C3.out) hc (HL.out.on C3.out) (by omega) (by omega) hxn hln)
    obtain ⟨⟨k1, k2, k3⟩, hG⟩ : ∃ G, PCheck.kind E a l = G := ⟨_, rfl⟩
    rw [hG] at KD
    have HG := Lib.hid hG
    have q1 : (k1 == k1) = true := beq_self_eq_true _
    have q2 : ((k2 : Int) == (k2 : Int)) = true := beq_self_eq_true _
    have q3 : ((k3 : Int) == (k3 : Int)) = true := beq_self_eq_true _
    clear hxn HB hb3 hG
    go_wp2_with fail
    refine (KD.out).mono ?_
    rintro _ w4 ⟨rfl, b4⟩
    have C4 := Lib.hid (below_step C3.out b4)
    have XB4 := HXB3.out.on b4
    obtain ⟨y0, y1⟩ := bx2 XB4
    have hsy := XB4.1
    clear b4 KD C3 HXB3 XB4 z0 z1 hsz
    go_wp2_with fail
    refine (RF.out _ C4.out).mono ?_
    rintro _ w5 ⟨A5, ca5, B5, cb5, rfl, -, he5, b5⟩
    have C5 := Lib.hid (below_step C4.out b5)
    have E5 := Lib.hid he5
    have RS := Lib.hid (trefs_any (ca := lc) (HL.out.on C5.out) (by omega))
    clear he5 b5 RF y0 y1 hsy
    go_wp2_with fail
    refine (RS.out).mono ?_
    rintro _ w6 ⟨L6, cl6, rfl, hl6, -, b6⟩
    have C6 := Lib.hid (below_step C5.out b6)
    have RK := r10kind_any (RA := A5) (rn := rn) (rc := ca5) (c := cb5) (lc := cl6) (r := a) (E5.out.on b6) hl6 (by omega) (by omega)
    rw [HG.out] at RK
    have RK := Lib.hid RK
    clear hl6 b6 RS E5
    go_wp2_with fail
    refine (RK.out).mono ?_
    rintro _ w7 ⟨rfl, b7⟩
    have C7 := Lib.hid (below_step C6.out b7)
    clear b7 RK
    go_wp2_with fail
    refine (hAw.out _ C7.out).mono ?_
    rintro _ w8 ⟨rfl, b8⟩
    go_wp2_with fail
    exact b8
end Go.Proofs.YtkmehhhgdeiaeaaDoor
