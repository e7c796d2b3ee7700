/-
  CheckMore answers true, where awake does.
-/
import Derived.Test.YtkmehhhgdeiaeaaDoorLaw10SmallG
import Derived.Test.YtkmehhhgdeiaeaaDoorLaw10NamesG
import Derived.Test.YtkmehhhgdeiaeaaDoorKT
import Derived.Test.YtkmehhhgdeiaeaaDoorCM
import Derived.Deep.RegionHeld3
import Derived.Deep.DeepMust
namespace Go.Proofs.YtkmehhhgdeiaeaaDoor
open Go.RowKit
open PCheck (Xp Bd)

theorem tree_bdTy : RecTy bdR 43 26 24 where
  info := ⟨.agg #[.string ⟨#[]⟩, .int .i64 0], by kernel_rfl, by rfl⟩
  under := by kernel_rfl
  few := by decide
def nobodyS : List UInt8 := [78, 111, 98, 111, 100, 121]
/-- What is kept of a program's box. -/
def PB2 (L : Nat) (u v : Value) (w : World) : Prop := w.cell? ⟨L, 0, none⟩ = some u ∧ w.cell? ⟨L, 1, none⟩ = some v
/-- Behind an append, or two, of bindings: Kind of all of them. -/
theorem more_step {w1 W w7 : World} {B L : Nat} {RA A : Option Addr} {rn rc n c : Nat} {E : List Xp} {l : List Bd} {a : Int} {u v : Value} {v7 : Value} (hE : SlX xpR w1 A n E) (hc : n ≤ c)
    (hn : n ≤ 1000) (hxn : ∀ x ∈ E, x.name.length ≤ maxLen) (hlen : l.length ≤ 1000) (hln : ∀ b ∈ l, b.name.length ≤ maxLen) (hB : w1.heap.size ≤ B) (hW : Below w1.heap.size w1 W) (hL : L < w1.heap.size)
    (hp : PB2 L u v w1) (h7 : Below B W w7) {k : Nat} (hk : l.length = k) (own : w7.ownsRow B 43 2 v7 k (bdR.cells l)) :
    ∃ A7 c7, v7 = .slice A7 k c7 ∧ PB2 L u v w7 ∧ Below w1.heap.size w1 w7 ∧ Hid (Calls Tryd.prog 12 #[.agg #[.slice RA rn rc, .slice A n c], .int .i64 a, .slice A7 k c7] w7 (KdAns (PCheck.kind E a l) w7)) := by
  obtain ⟨A7, c7, rfl, _, hc7, S7⟩ := slr_of_own own hk
  have hb : Below w1.heap.size w1 w7 := hW.trans (h7.mono hB)
  refine ⟨A7, c7, rfl, ⟨(hb.cell (p := ⟨L, 0, none⟩) hL).trans hp.1, (hb.cell (p := ⟨L, 1, none⟩) hL).trans hp.2⟩, hb, ?_⟩
  exact Lib.hid <| kKind_any (TA := RA) (tn := rn) (tc := rc) (lc := c7) (r := a) (hE.on hb) hc S7 hn (by omega) hxn hln
theorem hid_step {w0 w w' : World} (h : Hid (Below w0.heap.size w0 w)) (hb : Below w.heap.size w w') : Hid (Below w0.heap.size w0 w') := Lib.hid (below_step h.out hb)
set_option maxHeartbeats 6400000 in
set_option maxRecDepth 100000 in
theorem more_walk (HA : Aw10) {w : World} {RA A LA MA : Option Addr} {rn rc n c ln lc mn mc : Nat} {rows : List Rl10} {E : List Xp} {l more : List Bd} {a : Int} (hR : SlX rlR w RA rn rows) (hE : SlX xpR w A n E) (hL : SlX bdR w LA ln l) (hM : SlX bdR w MA mn more) (hr : rn * 40 ≤ 2 ^ 47) (hc : n ≤ c) (hc0 : A = none → c = 0)
    (hs : ∀ x ∈ E, x.name.length ≤ maxLen ∧ x.op.length ≤ maxLen) (hs2 : ∀ x ∈ rows, x.name.length ≤ maxLen ∧ x.kind.length ≤ maxLen) (hln : ∀ b ∈ l, b.name.length ≤ maxLen) (hmn : ∀ b ∈ more, b.name.length ≤ maxLen) (hll : (ln : Int) ≤ 9223372036854775807) (hml : (mn : Int) ≤ 9223372036854775807) (hnn : (n : Int) ≤ 9223372036854775807) (hlz : LA = none → lc = 0) (hmz : MA = none → mc = 0) :
    Calls Tryd.prog 4 #[.agg #[.slice RA rn rc, .slice A n c], .int .i64 a, .slice LA ln lc, .slice MA mn mc] w (TrueB w) := by
  obtain ⟨Q, hQ⟩ : ∃ Q, TrueB w = Q := ⟨_, rfl⟩
  rw [hQ]
  have HQ := Lib.hid hQ; have HAh := Lib.hid HA
  obtain ⟨w1, hw1, XB, b1⟩ : ∃ w1, w.alloc (.cells #[.slice RA rn rc, .slice A n c] 25) = w1 ∧ Box w1 w.heap.size [.slice RA rn rc, .slice A n c] ∧ Below w.heap.size w w1 := ⟨_, rfl, Box.new _ _ [.slice RA rn rc, .slice A n c], (Below.refl _ _).alloc (Nat.le_refl _) _⟩
  have HW1 := Lib.hid hw1; have B1 := Lib.hid b1
  have HR := Lib.hid (hR.on b1); have HE := Lib.hid (hE.on b1); have HL := Lib.hid (hL.on b1); have HM := Lib.hid (hM.on b1)
  have HXB := Lib.hid XB; have X1 := Lib.hid XB
  obtain ⟨x0, x1⟩ := bx2 XB
  have hsx := XB.1
  have hEl : E.length = n := hE.1
  clear hw1 b1 XB hE hL hM hR hQ HA
  have FIN : Hid (∀ w2 w3, Below w1.heap.size w1 w2 → Below w2.heap.size w2 w3 → Q (.returned (.bool true)) w3) := Lib.hid (fun w2 w3 h2 h3 => by rw [← HQ.out]; exact ⟨rfl, below_step (below_step B1.out h2) h3⟩)
  by_cases g1 : (300 : Int) < (n : Int)
  · go_enter Tryd.func4, Tryd.ntmps4
    go_upto_region 1 with fail
    rw [HW1.out]
    go_wp2_with fail
    refine (HAh.out _).mono ?_
    rintro _ w3 ⟨rfl, b3⟩
    go_wp2_with fail
    exact FIN.out _ _ (Below.refl _ _) b3
  have RF : Hid (∀ wx, Below w1.heap.size w1 wx → Calls Tryd.prog 10 #[.agg #[.slice RA rn rc, .slice A n c]] wx fun e w' => ∃ A' ca' B' cb', e = .returned (.agg #[.slice A' rn ca', .slice B' n cb']) ∧ SlX rlR w' A' rn rows ∧ SlX xpR w' B' n E ∧ Below wx.heap.size wx w') := Lib.hid (fun wx h => by
    have hR2 := HR.out.on h; have hE2 := HE.out.on h
    obtain rfl := hR2.1
    obtain rfl := hE2.1
    exact (tref_any hR2 hE2 hr (by omega)).mono fun _ _ ⟨A', ca', B', cb', h1, h2, h3, _, _, h8⟩ => ⟨A', ca', B', cb', h1, h2, h3, h8⟩)
  go_enter Tryd.func4, Tryd.ntmps4
  go_upto_region 1 with fail
  rw [HW1.out]
  clear HW1
  go_wp2_with fail
  refine (RF.out _ (Below.refl _ _)).mono ?_
  rintro _ w2 ⟨A2, ca2, B2, cb2, rfl, hr2, he2, b2⟩
  have SM := Lib.hid (small_any (ca := ca2) (cb := cb2) hr2 he2 hs hs2)
  have XB2 := HXB.out.on b2
  obtain ⟨y0, y1⟩ := bx2 XB2
  have hsy := XB2.1
  have HXB2 := Lib.hid XB2
  have C2 := Lib.hid b2
  clear hr2 he2 b2 XB2 HXB x0 x1 hsx hs hs2
  go_wp2_with fail
  refine SM.out.mono ?_
  rintro _ w3 ⟨b, rfl, hb, b3⟩
  have XB3 := HXB2.out.on b3
  obtain ⟨z0, z1⟩ := bx2 XB3
  have hsz := XB3.1
  have HXB3 := Lib.hid XB3
  have C3 := Lib.hid (below_step C2.out b3)
  have HB := Lib.hid hb
  clear b3 XB3 HXB2 y0 y1 hsy SM HR hb C2
  have hAw : Hid (∀ wa, Below w1.heap.size w1 wa → Calls Tryd.prog 11 #[] wa fun e w' => e = .returned (.bool true) ∧ Q (.returned (.bool true)) w') := Lib.hid (fun wa h => (HAh.out wa).mono fun _ _ ⟨h1, h2⟩ => ⟨h1, FIN.out _ _ h h2⟩)
  cases b with
  | false =>
    go_wp2_with fail
    refine (hAw.out _ C3.out).mono ?_
    rintro _ w4 ⟨rfl, b4⟩
    go_wp2_with fail
    exact b4
  | true =>
    obtain ⟨hb1, hb2, hb3⟩ := HB.out rfl
    by_cases g2 : (60 : Int) < (ln : Int)
    · go_wp2_with fail
      refine (hAw.out _ C3.out).mono ?_
      rintro _ w4 ⟨rfl, b4⟩
      go_wp2_with fail
      exact b4
    by_cases g3 : (60 : Int) < (mn : Int)
    · go_wp2_with fail
      refine (hAw.out _ C3.out).mono ?_
      rintro _ w4 ⟨rfl, b4⟩
      go_wp2_with fail
      exact b4
    have hxn : ∀ x ∈ E, x.name.length ≤ maxLen := fun x hx => Nat.le_trans (hb3 x hx) (by unfold maxLen; omega)
    have hlL := HL.out.1
    have hlM := HM.out.1
    have KD := Lib.hid (kKind_any (TA := RA) (tn := rn) (tc := rc) (lc := lc) (r := a) (HE.out.on C3.out) hc (HL.out.on C3.out) (by omega) (by omega) hxn hln)
    obtain ⟨⟨k1, k2, k3⟩, hG1⟩ : ∃ G, PCheck.kind E a l = G := ⟨_, rfl⟩
    obtain ⟨⟨n1, n2, n3⟩, hG2⟩ : ∃ G, PCheck.kind E a (l ++ more) = G := ⟨_, rfl⟩
    obtain ⟨⟨m1, m2, m3⟩, hG3⟩ : ∃ G, PCheck.kind E a (⟨nobodyS, 1⟩ :: l) = G := ⟨_, rfl⟩
    have LAW1 : Hid (k3 = 0 → n3 = 0 ∧ k1 = n1) := Lib.hid (fun h => by
      have h1 := PCheck.kind_more (E := E) (l := l) more (r := a) (by rw [hG1]; exact h)
      rw [hG1, hG2] at h1
      cases h1
      exact ⟨h, rfl⟩)
    have LAW2 : Hid ((∀ x ∈ E, x.name ≠ nobodyS) → m1 = k1 ∧ m3 = k3) := Lib.hid (fun h => by
      have h1 := PCheck.kind_nobody (E := E) (l := l) (b := ⟨nobodyS, 1⟩) h a
      rw [hG3, hG1] at h1
      cases h1
      exact ⟨rfl, rfl⟩)
    rw [hG1] at KD
    have HG2 := Lib.hid hG2; have HG3 := Lib.hid hG3
    have HX := Lib.hid hxn
    clear hxn HB hb3 hG1 hG2 hG3 RF
    go_wp2_with fail
    refine (KD.out).mono ?_
    rintro _ w4 ⟨rfl, b4⟩
    have C4 := Lib.hid (below_step C3.out b4)
    have X4 := Lib.hid (HXB3.out.on b4)
    clear b4 KD C3 HXB3 z0 z1 hsz
    go_upto_region 4 with fail
    have hLw1 : w.heap.size < w1.heap.size := by have := B1.out.size; have h := X1.out.1; omega
    have Z1 : PB2 w.heap.size (.slice RA rn rc) (.slice A n c) w1 := bx2 X1.out
    have s14 := C4.out.size
    have BD : Below w4.heap.size w4 w4.drew := (Below.refl _ _).drew
    have bW : Below w4.heap.size w4 (w4.alloc (.cells #[] 43)).drew := ((Below.refl _ _).alloc (Nat.le_refl _) _).drew
    have Z4 : w4.drew.cell? ⟨w.heap.size, 0, none⟩ = some (.slice RA rn rc) ∧ w4.drew.cell? ⟨w.heap.size, 1, none⟩ = some (.slice A n c) := bx2 (X4.out.on BD)
    have Z5 : (w4.alloc (.cells #[] 43)).drew.cell? ⟨w.heap.size, 0, none⟩ = some (.slice RA rn rc) ∧ (w4.alloc (.cells #[] 43)).drew.cell? ⟨w.heap.size, 1, none⟩ = some (.slice A n c) := bx2 (X4.out.on bW)
    have O5 : (w4.alloc (.cells #[] 43)).drew.ownsRow w4.heap.size 43 bdR.k (.slice (some ⟨w4.heap.size, 0, none⟩) 0 0) 0 (bdR.cells []) := World.ownsRow_made w4 #[] 0 (Nat.le_refl _) (Nat.zero_le _) rfl
    have L5 : SlX bdR (w4.alloc (.cells #[] 43)).drew LA ln l := HL.out.on (below_step C4.out bW)
    have s5 : w4.heap.size ≤ (w4.alloc (.cells #[] 43)).drew.heap.size := bW.size
    have h5 : 0 + ln ≤ 100000 := by omega
    have h6 : 0 + ln + mn ≤ 100000 := by omega
    have M6 : Hid (∀ w6, Below w4.heap.size (w4.alloc (.cells #[] 43)).drew w6 → (w6.cell? ⟨w.heap.size, 0, none⟩ = some (.slice RA rn rc) ∧ w6.cell? ⟨w.heap.size, 1, none⟩ = some (.slice A n c)) ∧ SlX bdR w6 MA mn more ∧ w4.heap.size ≤ w6.heap.size) := Lib.hid (fun w6 b6 => by
      have h := bW.trans b6
      exact ⟨bx2 (X4.out.on h), HM.out.on (below_step C4.out h), h.size⟩)
    have A7 : Hid (∀ w6 v7 w7, Below w4.heap.size (w4.alloc (.cells #[] 43)).drew w6 → Below w4.heap.size w6 w7 → w7.ownsRow w4.heap.size 43 bdR.k v7 (0 + ln + mn) (bdR.cells ([] ++ l ++ more)) → ∃ A7 c7, v7 = .slice A7 (ln + mn) c7 ∧ (w7.cell? ⟨w.heap.size, 0, none⟩ = some (.slice RA rn rc) ∧ w7.cell? ⟨w.heap.size, 1, none⟩ = some (.slice A n c)) ∧ Below w1.heap.size w1 w7 ∧ Hid (Calls Tryd.prog 12 #[.agg #[.slice RA rn rc, .slice A n c], .int .i64 a, .slice A7 (ln + mn) c7] w7 (KdAns (n1, n2, n3) w7))) := Lib.hid (fun w6 v7 w7 b6 b7 own => by
      rw [← HG2.out]
      rw [Nat.zero_add] at own
      exact more_step (W := w4) HE.out hc (by omega) HX.out (l := l ++ more) (by rw [List.length_append]; omega) (fun b hb => by
        rcases List.mem_append.1 hb with h | h
        · exact hln b h
        · exact hmn b h) s14 C4.out hLw1 Z1 ((bW.trans b6).trans b7) (by rw [List.length_append]; omega) own)
    have K8 : Hid (∀ w7 w8, w7.cell? ⟨w.heap.size, 0, none⟩ = some (.slice RA rn rc) ∧ w7.cell? ⟨w.heap.size, 1, none⟩ = some (.slice A n c) → Below w7.heap.size w7 w8 → w8.cell? ⟨w.heap.size, 0, none⟩ = some (.slice RA rn rc) ∧ w8.cell? ⟨w.heap.size, 1, none⟩ = some (.slice A n c)) := Lib.hid (fun w7 w8 Z7 b8 => ⟨(b8.cell (World.block_lt_of_cell? w7 _ Z7.1)).trans Z7.1, (b8.cell (World.block_lt_of_cell? w7 _ Z7.2)).trans Z7.2⟩)
    have HO5 := Lib.hid O5; have HL5 := Lib.hid L5; have HS5 := Lib.hid s5
    clear O5 L5 bW BD Z1 s5
    go_region_held3 (fun w' => w'.cell? ⟨w.heap.size, 0, none⟩ = some (.slice RA rn rc) ∧ w'.cell? ⟨w.heap.size, 1, none⟩ = some (.slice A n c))
      (first
        | with_reducible exact Z4
        | with_reducible exact Z5
        | with_reducible exact Z6
        | with_reducible exact Z7
        | with_reducible exact Z8)
      (first
        | with_reducible
            refine in_w (w4.alloc (.cells #[] 43)).drew ?_
          refine step_append_recs tree_bdTy _ rfl _ _ rfl w4.heap.size _ 0 [] rfl HO5.out LA ln lc l rfl hlz HL5.out h5 HS5.out ?_
          intro v6 w6 own6 b6
          obtain ⟨Z6, L6, s6⟩ := M6.out w6 b6
          have HO6 := Lib.hid own6; have HL6 := Lib.hid L6; have HS6 := Lib.hid s6; have HB6 := Lib.hid b6
          clear own6 b6 L6 s6
        | with_reducible
            refine in_w w6 ?_
          refine step_append_recs tree_bdTy _ rfl _ _ rfl w4.heap.size _ _ _ rfl HO6.out MA mn mc more rfl hmz HL6.out h6 HS6.out ?_
          intro v7 w7 own7 b7
          obtain ⟨P7, c7, rfl, Z7, C7, K7⟩ := A7.out w6 v7 w7 HB6.out b7 own7
          have HC7 := Lib.hid C7
          clear own7 b7 C7
        | go_at_call 12
          go_must (refine K7.out.mono ?_)
          rintro _ w8 ⟨rfl, b8⟩
          have Z8 := K8.out w7 w8 Z7 b8
          have C8 := hid_step HC7 b8
          clear b8)
    have s18 := C8.out.size
    have bD8 : Below w8.heap.size w8 w8.drew := (Below.refl _ _).drew
    have bX : Below w8.heap.size w8 (w8.alloc (.cells #[.string ⟨#[78, 111, 98, 111, 100, 121]⟩, .int .i64 1] 43)).drew := ((Below.refl _ _).alloc (Nat.le_refl _) _).drew
    have X8 : Hid (Box w8 w.heap.size [.slice RA rn rc, .slice A n c]) := Lib.hid (X1.out.on C8.out)
    have Z9 : w8.drew.cell? ⟨w.heap.size, 0, none⟩ = some (.slice RA rn rc) ∧ w8.drew.cell? ⟨w.heap.size, 1, none⟩ = some (.slice A n c) := bx2 (X8.out.on bD8)
    have ZA : (w8.alloc (.cells #[.string ⟨#[78, 111, 98, 111, 100, 121]⟩, .int .i64 1] 43)).drew.cell? ⟨w.heap.size, 0, none⟩ = some (.slice RA rn rc) ∧ (w8.alloc (.cells #[.string ⟨#[78, 111, 98, 111, 100, 121]⟩, .int .i64 1] 43)).drew.cell? ⟨w.heap.size, 1, none⟩ = some (.slice A n c) := bx2 (X8.out.on bX)
    have OA : Hid ((w8.alloc (.cells #[.string ⟨#[78, 111, 98, 111, 100, 121]⟩, .int .i64 1] 43)).drew.ownsRow w8.heap.size 43 bdR.k (.slice (some ⟨w8.heap.size, 0, none⟩) 1 1) 1 (bdR.cells [⟨nobodyS, 1⟩])) := Lib.hid (World.ownsRow_lit (base := w8.heap.size) (e := 43) (size := 2) w8 #[.string ⟨#[78, 111, 98, 111, 100, 121]⟩, .int .i64 1] 1 (Nat.le_refl _) (by unfold maxLen; omega) rfl)
    have LA8 : Hid (SlX bdR (w8.alloc (.cells #[.string ⟨#[78, 111, 98, 111, 100, 121]⟩, .int .i64 1] 43)).drew LA ln l) := Lib.hid (HL.out.on (below_step C8.out bX))
    have SA8 : Hid (w8.heap.size ≤ (w8.alloc (.cells #[.string ⟨#[78, 111, 98, 111, 100, 121]⟩, .int .i64 1] 43)).drew.heap.size) := Lib.hid bX.size
    have h8 : 1 + ln ≤ 100000 := by omega
    have Z1 : PB2 w.heap.size (.slice RA rn rc) (.slice A n c) w1 := bx2 X1.out
    have A9 : Hid (∀ v9 w9, Below w8.heap.size (w8.alloc (.cells #[.string ⟨#[78, 111, 98, 111, 100, 121]⟩, .int .i64 1] 43)).drew w9 → w9.ownsRow w8.heap.size 43 bdR.k v9 (1 + ln) (bdR.cells ([⟨nobodyS, 1⟩] ++ l)) → ∃ A7 c7, v9 = .slice A7 (1 + ln) c7 ∧ (w9.cell? ⟨w.heap.size, 0, none⟩ = some (.slice RA rn rc) ∧ w9.cell? ⟨w.heap.size, 1, none⟩ = some (.slice A n c)) ∧ Below w1.heap.size w1 w9 ∧ Hid (Calls Tryd.prog 12 #[.agg #[.slice RA rn rc, .slice A n c], .int .i64 a, .slice A7 (1 + ln) c7] w9 (KdAns (m1, m2, m3) w9))) := Lib.hid (fun v9 w9 b9 own => by
      rw [← HG3.out]
      exact more_step (W := w8) HE.out hc (by omega) HX.out (l := ⟨nobodyS, 1⟩ :: l) (by rw [List.length_cons]; omega) (fun b hb => by
        rcases List.mem_cons.1 hb with h | h
        · rw [h]; show 6 ≤ maxLen; unfold maxLen; omega
        · exact hln b h) s18 C8.out hLw1 Z1 (bX.trans b9) (by rw [List.length_cons]; omega) own)
    clear bD8 bX Z1 Z4 Z5 Z6 Z7 K7 HC7 HO6 HL6 HS6 HB6 HO5 HL5 HS5 M6 A7 X4 C4
    go_upto_region 5 with fail
    go_region_held3 (fun w' => w'.cell? ⟨w.heap.size, 0, none⟩ = some (.slice RA rn rc) ∧ w'.cell? ⟨w.heap.size, 1, none⟩ = some (.slice A n c))
      (first
        | with_reducible exact Z9
        | with_reducible exact ZA
        | with_reducible exact ZB
        | with_reducible exact ZC)
      (first
        | with_reducible
            refine in_w (w8.alloc (.cells #[.string ⟨#[78, 111, 98, 111, 100, 121]⟩, .int .i64 1] 43)).drew ?_
          refine step_append_recs tree_bdTy _ rfl _ _ rfl w8.heap.size _ 1 _ rfl OA.out LA ln lc l rfl hlz LA8.out h8 SA8.out ?_
          intro v9 w9 own9 b9
          obtain ⟨P9, c9, rfl, ZB, C9, K9⟩ := A9.out v9 w9 b9 own9
          have HC9 := Lib.hid C9
          clear own9 b9 C9
        | go_at_call 12
          go_must (refine K9.out.mono ?_)
          rintro _ wa ⟨rfl, ba⟩
          have ZC := K8.out w9 wa ZB ba
          have Ca := hid_step HC9 ba
          clear ba)
    clear Z9 ZA ZB K9 HC9 OA LA8 SA8 A9 Z8 K8 C8 X8 ZC
    obtain ⟨y0, y1⟩ := bx2 (X1.out.on Ca.out)
    have hsy := (X1.out.on Ca.out).1
    go_wp2_with fail
    clear y0 y1 hsy
    go_loopw [75] (fun q wx => ∃ t : Nat, t ≤ n ∧ q = .int .i64 t ∧ Hid (∀ s (h : s < E.length), s < t → E[s].name ≠ nobodyS) ∧ Hid (Below w1.heap.size w1 wx)) (fun q _ => n - (intOf q).toNat)
    case atStart => exact ⟨0, Nat.zero_le _, rfl, Lib.hid (fun s h hs => by omega), Ca⟩
    case round =>
      clear Ca
      obtain ⟨t, ht, rfl, I1, I2⟩ := hrel
      by_cases htn : t < n
      · have gt : (t : Int) < (n : Int) := by omega
        have htE : t < E.length := by omega
        obtain ⟨⟨op, nm, vl, ya, yb, yc⟩, hy⟩ : ∃ y : Xp, E[t] = y := ⟨_, rfl⟩
        obtain ⟨b, off, rfl, hcx⟩ := (HE.out.on I2.out).at htn
        have hd := hcx t htE
        rw [hy] at hd
        have c0 : wr.cell? ⟨b, off + t * 6, none⟩ = some (.string ⟨op.toArray⟩) := by simpa [xpR] using hd 0 _ rfl
        have c1 : wr.cell? ⟨b, off + t * 6 + 1, none⟩ = some (.string ⟨nm.toArray⟩) := hd 1 _ rfl
        have c2 : wr.cell? ⟨b, off + t * 6 + 2, none⟩ = some (.int .i64 vl) := hd 2 _ rfl
        have c3 : wr.cell? ⟨b, off + t * 6 + 3, none⟩ = some (.int .i64 ya) := hd 3 _ rfl
        have c4 : wr.cell? ⟨b, off + t * 6 + 4, none⟩ = some (.int .i64 yb) := hd 4 _ rfl
        have c5 : wr.cell? ⟨b, off + t * 6 + 5, none⟩ = some (.int .i64 yc) := hd 5 _ rfl
        have hsb := World.block_lt_of_cell? wr _ c0
        obtain ⟨w5, hw5, YB, b5⟩ : ∃ w5, wr.alloc (.cells #[.string ⟨op.toArray⟩, .string ⟨nm.toArray⟩, .int .i64 vl, .int .i64 ya, .int .i64 yb, .int .i64 yc] 45) = w5 ∧ Box w5 wr.heap.size [.string ⟨op.toArray⟩, .string ⟨nm.toArray⟩, .int .i64 vl, .int .i64 ya, .int .i64 yb, .int .i64 yc] ∧ Below wr.heap.size wr w5 := ⟨_, rfl, Box.new _ _ [.string ⟨op.toArray⟩, .string ⟨nm.toArray⟩, .int .i64 vl, .int .i64 ya, .int .i64 yb, .int .i64 yc], (Below.refl _ _).alloc (Nat.le_refl _) _⟩
        have HW5 := Lib.hid hw5
        have B5 := hid_step I2 b5
        obtain ⟨x0, x1, x2, x3, x4, x5⟩ := box6 YB
        have hsx := YB.1
        have HY := Lib.hid hy
        clear hcx hd hw5 YB b5 I2 hy
        go_upto_region 9 with fail
        rw [HW5.out]
        clear HW5 c0 c1 c2 c3 c4 c5 hsb
        by_cases hns : nm = nobodyS
        · subst hns
          clear I1 HY
          unfold nobodyS at *
          go_wp2_with fail
          refine (hAw.out _ B5.out).mono ?_
          rintro _ w9 ⟨rfl, b9⟩
          go_wp2_with fail
          exact b9
        · have hne : (nm == [78, 111, 98, 111, 100, 121]) = false := by rw [beq_eq_false_iff_ne]; exact hns
          have FIN2 : Hid (∀ s (h : s < E.length), s < t + 1 → E[s].name ≠ nobodyS) := Lib.hid (fun s h hs => by
            by_cases e : s = t
            · subst e; rw [HY.out]; exact hns
            · exact I1.out s h (by omega))
          clear I1 HY hns
          go_wp2_with fail
          exact ⟨⟨t + 1, by omega, by congr 1, FIN2, B5⟩, by simp [intOf]; omega⟩
      · obtain rfl : t = n := by omega
        obtain ⟨rfl, rfl⟩ := LAW2.out (fun x hx => by
          obtain ⟨i, hi, rfl⟩ := List.getElem_of_mem hx
          exact I1.out i hi (by omega))
        have q1 : (m1 == m1) = true := beq_self_eq_true _
        have q3 : ((m3 : Int) == (m3 : Int)) = true := beq_self_eq_true _
        clear LAW2 I1
        by_cases hk : m3 = 0
        · obtain ⟨rfl, rfl⟩ := LAW1.out hk
          subst hk
          clear LAW1
          go_wp2_with fail
          refine (hAw.out _ I2.out).mono ?_
          rintro _ w9 ⟨rfl, b9⟩
          go_wp2_with fail
          exact b9
        · have hke : ((m3 : Int) == 0) = false := by rw [beq_eq_false_iff_ne]; omega
          clear LAW1
          go_wp2_with fail
          refine (hAw.out _ I2.out).mono ?_
          rintro _ w9 ⟨rfl, b9⟩
          go_wp2_with fail
          exact b9
end Go.Proofs.YtkmehhhgdeiaeaaDoor
