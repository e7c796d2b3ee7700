/-
  CheckIf answers true, where awake does.
-/
import Derived.Test.YtkmehhhgdeiaeaaDoorLaw10NegG
namespace Go.Proofs.YtkmehhhgdeiaeaaDoor
open Go.RowKit
open PCheck (Xp Bd)

theorem kind_two {E : List Xp} {l : List Bd} {r : Nat} (hr : r < E.length) : ∃ (k : Int) (p e : Nat), PCheck.kind E (r : Int) l = (k, p, e) ∧ ((PCheck.K E l r ≠ 0 ∧ k = PCheck.K E l r ∧ e = 0) ∨ (PCheck.K E l r = 0 ∧ e ≠ 0)) := by
  obtain ⟨h1, h2, _⟩ := PCheck.kind_iff (l := l) hr
  by_cases h : PCheck.K E l r = 0
  · exact ⟨_, _, _, rfl, .inr ⟨h, (h2 h).1⟩⟩
  · exact ⟨_, _, _, h1 h, .inl ⟨h, rfl, rfl⟩⟩
set_option maxHeartbeats 6400000 in
set_option maxRecDepth 100000 in
theorem if_walk (HA : Aw10) {w : World} {RA A LA : Option Addr} {rn rc n c ln lc : Nat} {rows : List Rl10} {E : List Xp} {l : List Bd} {a b' c' : Int} (hR : SlX rlR w RA rn rows) (hE : SlX xpR w A n E) (hL : SlX bdR w LA ln l) (hr : rn * 40 ≤ 2 ^ 47) (hc : n ≤ c) (hc0 : A = none → c = 0)
    (hs : ∀ x ∈ E, x.name.length ≤ maxLen ∧ x.op.length ≤ maxLen) (hs2 : ∀ x ∈ rows, x.name.length ≤ maxLen ∧ x.kind.length ≤ maxLen) (hln : ∀ b ∈ l, b.name.length ≤ maxLen) (hll : (ln : Int) ≤ 9223372036854775807) (hnn : (n : Int) ≤ 9223372036854775807) :
    Calls Tryd.prog 8 #[.agg #[.slice RA rn rc, .slice A n c], .int .i64 a, .int .i64 b', .int .i64 c', .slice LA ln lc] w (TrueB w) := by
  obtain ⟨Q, hQ⟩ : ∃ Q, TrueB w = Q := ⟨_, rfl⟩
  rw [hQ]
  have HQ := Lib.hid hQ; have HAh := Lib.hid HA
  obtain ⟨w1, hw1, XB, b1⟩ : ∃ w1, w.alloc (.cells #[.slice RA rn rc, .slice A n c] 25) = w1 ∧ Box w1 w.heap.size [.slice RA rn rc, .slice A n c] ∧ Below w.heap.size w w1 := ⟨_, rfl, Box.new _ _ [.slice RA rn rc, .slice A n c], (Below.refl _ _).alloc (Nat.le_refl _) _⟩
  have HW1 := Lib.hid hw1; have B1 := Lib.hid b1
  have HR := Lib.hid (hR.on b1); have HE := Lib.hid (hE.on b1); have HL := Lib.hid (hL.on b1)
  have HXB := Lib.hid XB
  obtain ⟨x0, x1⟩ := bx2 XB
  have hsx := XB.1
  have hEl : E.length = n := hE.1
  clear hw1 b1 XB hE hL hR hQ HA
  have FIN : Hid (∀ w2 w3, Below w1.heap.size w1 w2 → Below w2.heap.size w2 w3 → Q (.returned (.bool true)) w3) := Lib.hid (fun w2 w3 h2 h3 => by rw [← HQ.out]; exact ⟨rfl, below_step (below_step B1.out h2) h3⟩)
  by_cases g1 : (200 : Int) < (n : Int)
  · go_enter Tryd.func8, Tryd.ntmps8
    go_upto_region 1 with fail
    rw [HW1.out]
    go_wp2_with fail
    refine (HAh.out _).mono ?_
    rintro _ w3 ⟨rfl, b3⟩
    go_wp2_with fail
    exact FIN.out _ _ (Below.refl _ _) b3
  have RF := Lib.hid (guard_any (ca := rc) (cb := c) HR.out HE.out hr (by omega))
  go_enter Tryd.func8, Tryd.ntmps8
  go_upto_region 1 with fail
  rw [HW1.out]
  clear HW1
  go_wp2_with fail
  refine RF.out.mono ?_
  rintro _ w2 ⟨A2, ca2, B2, cb2, rfl, hr2, he2, b2⟩
  have SM := Lib.hid (small_any (ca := ca2) (cb := cb2) hr2 he2 hs hs2)
  have XB2 := HXB.out.on b2
  obtain ⟨y0, y1⟩ := bx2 XB2
  have hsy := XB2.1
  have HXB2 := Lib.hid XB2
  have C2 := Lib.hid b2
  clear hr2 he2 b2 XB2 HXB RF x0 x1 hsx hs hs2
  go_wp2_with fail
  refine SM.out.mono ?_
  rintro _ w3 ⟨b, rfl, hb, b3⟩
  have XB3 := HXB2.out.on b3
  obtain ⟨z0, z1⟩ := bx2 XB3
  have hsz := XB3.1
  have HXB3 := Lib.hid XB3
  have C3 := Lib.hid (below_step C2.out b3)
  have HB := Lib.hid hb
  clear b3 XB3 HXB2 y0 y1 hsy SM HR hb C2
  have hAw : Hid (∀ wa, Below w1.heap.size w1 wa → Calls Tryd.prog 11 #[] wa fun e w' => e = .returned (.bool true) ∧ Q (.returned (.bool true)) w') := Lib.hid (fun wa h => (HAh.out wa).mono fun _ _ ⟨h1, h2⟩ => ⟨h1, FIN.out _ _ h h2⟩)
  cases b with
  | false =>
    go_wp2_with fail
    refine (hAw.out _ C3.out).mono ?_
    rintro _ w4 ⟨rfl, b4⟩
    go_wp2_with fail
    exact b4
  | true =>
    obtain ⟨hb1, hb2, hb3⟩ := HB.out rfl
    by_cases g2 : (60 : Int) < (ln : Int)
    · go_wp2_with fail
      refine (hAw.out _ C3.out).mono ?_
      rintro _ w4 ⟨rfl, b4⟩
      go_wp2_with fail
      exact b4
    have hxn : ∀ x ∈ E, x.name.length ≤ maxLen := fun x hx => Nat.le_trans (hb3 x hx) (by unfold maxLen; omega)
    have HX := Lib.hid hxn
    have KD : Hid (∀ (wx : World) (r : Int), Below w3.heap.size w3 wx → Calls Tryd.prog 12 #[.agg #[.slice RA rn rc, .slice A n c], .int .i64 r, .slice LA ln lc] wx (KdAns (PCheck.kind E r l) wx)) := Lib.hid (fun wx r h =>
      kKind_any (TA := RA) (tn := rn) (tc := rc) (lc := lc) (r := r) (HE.out.on (below_step C3.out h)) hc (HL.out.on (below_step C3.out h)) (by omega) (by omega) hxn hln)
    obtain ⟨L, hL⟩ : ∃ L : List Int, L = [a, b', c'] := ⟨_, rfl⟩
    obtain ⟨w4, hw4, b4, hc4⟩ : ∃ w4, w3.alloc (.cells #[.int .i64 a, .int .i64 b', .int .i64 c'] 3) = w4 ∧ Below w3.heap.size w3 w4 ∧ ∀ t, t < 3 → w4.cell? ⟨w3.heap.size, t, none⟩ = some (.int .i64 (L.getD t 0)) := ⟨_, rfl, (Below.refl _ _).alloc (Nat.le_refl _) _, fun t ht => by
      rw [hL]
      refine (Box.new w3 3 ([a, b', c'].map fun z => Value.int .i64 z)).c t ?_
      rcases (by omega : t = 0 ∨ t = 1 ∨ t = 2) with rfl | rfl | rfl <;> rfl⟩
    have HC4 := Lib.hid hc4
    have XB4 := HXB3.out.on b4
    obtain ⟨y0, y1⟩ := bx2 XB4
    have hsy := XB4.1
    have HXB4 := Lib.hid XB4
    have D4 := Lib.hid b4
    have C4 := Lib.hid (below_step C3.out b4)
    have hL4 : w3.heap.size < w4.heap.size := World.block_lt_of_cell? w4 _ (hc4 0 (by omega))
    clear XB4 HXB3 hc4 b4 z0 z1 hsz hxn hb3 HB
    go_upto_region 4 with fail
    (try rw [hw4])
    clear hw4
    go_loopw [47] (fun q wx => ∃ t : Nat, t ≤ 3 ∧ q = .int .i64 t ∧ Hid (∀ s, s < t → 0 ≤ L.getD s 0 ∧ L.getD s 0 < (n : Int)) ∧ w4 = wx) (fun q _ => 3 - (intOf q).toNat)
    case atStart => exact ⟨0, by omega, rfl, Lib.hid (fun s hs => by omega), rfl⟩
    case round =>
      obtain ⟨t, ht, rfl, I1, rfl⟩ := hrel
      by_cases ht3 : t < 3
      · have gt : (t : Int) < 3 := by omega
        have ct := HC4.out t ht3
        obtain ⟨z, hz⟩ : ∃ z, L.getD t 0 = z := ⟨_, rfl⟩
        rw [hz] at ct
        by_cases g3 : z < 0
        · go_wp2_with fail
          refine (hAw.out _ C4.out).mono ?_
          rintro _ w5 ⟨rfl, b5⟩
          go_wp2_with fail
          exact b5
        by_cases g4 : (n : Int) ≤ z
        · go_wp2_with fail
          refine (hAw.out _ C4.out).mono ?_
          rintro _ w5 ⟨rfl, b5⟩
          go_wp2_with fail
          exact b5
        have FIN2 : Hid (∀ s, s < t + 1 → 0 ≤ L.getD s 0 ∧ L.getD s 0 < (n : Int)) := Lib.hid (fun s hs => by
          by_cases e : s = t
          · subst e; rw [hz]; omega
          · exact I1.out s (by omega))
        clear I1 hz
        go_wp2_with fail
        exact ⟨⟨t + 1, by omega, by congr 1, FIN2, trivial⟩, by simp [intOf]; omega⟩
      · obtain rfl : t = 3 := by omega
        have ha := I1.out 0 (by omega)
        have hb := I1.out 1 (by omega)
        have hcc := I1.out 2 (by omega)
        rw [hL] at ha hb hcc
        have ha : 0 ≤ a ∧ a < (n : Int) := ha
        have hb : 0 ≤ b' ∧ b' < (n : Int) := hb
        have hcc : 0 ≤ c' ∧ c' < (n : Int) := hcc
        clear hL I1 HC4
        obtain ⟨ak, rfl⟩ : ∃ ak : Nat, a = ak := ⟨a.toNat, by omega⟩
        obtain ⟨bk, rfl⟩ : ∃ bk : Nat, b' = bk := ⟨b'.toNat, by omega⟩
        obtain ⟨ck, rfl⟩ : ∃ ck : Nat, c' = ck := ⟨c'.toNat, by omega⟩
        have la : ak < E.length := by omega
        have lb : bk < E.length := by omega
        have lc' : ck < E.length := by omega
        obtain ⟨ka, pa, ea, hka, fa⟩ := kind_two (l := l) la
        obtain ⟨kb, pb, eb, hkb, fb⟩ := kind_two (l := l) lb
        obtain ⟨kc, pc, ec, hkc, fc⟩ := kind_two (l := l) lc'
        have KA := Lib.hid (fun wx h => KD.out wx (ak : Int) h)
        have KB := Lib.hid (fun wx h => KD.out wx (bk : Int) h)
        have KC := Lib.hid (fun wx h => KD.out wx (ck : Int) h)
        rw [hka] at KA
        rw [hkb] at KB
        rw [hkc] at KC
        have HFA := Lib.hid fa; have HFB := Lib.hid fb; have HFC := Lib.hid fc
        clear hka hkb hkc fa fb fc KD
        go_wp2_with fail
        refine (KA.out _ D4.out).mono ?_
        rintro _ wa ⟨rfl, ba⟩
        have Da := Lib.hid (below_step D4.out ba)
        have Ca := Lib.hid (below_step C4.out ba)
        have QA := HXB4.out.on ba
        obtain ⟨t0, t1⟩ := bx2 QA
        have hta := QA.1
        have HQA := Lib.hid QA
        have La := ba.size
        clear y0 y1 hsy ba QA KA
        go_wp2_with fail
        refine (KB.out _ Da.out).mono ?_
        rintro _ wb ⟨rfl, bb⟩
        have Db := Lib.hid (below_step Da.out bb)
        have Cb := Lib.hid (below_step Ca.out bb)
        have QB := HQA.out.on bb
        obtain ⟨y0, y1⟩ := bx2 QB
        have hsy := QB.1
        have HQB := Lib.hid QB
        clear t0 t1 hta bb QB KB HQA Da Ca
        go_wp2_with fail
        refine (KC.out _ Db.out).mono ?_
        rintro _ wc ⟨rfl, bc⟩
        have Cc := Lib.hid (below_step Cb.out bc)
        have XBc := HQB.out.on bc
        have HXBc := Lib.hid XBc
        obtain ⟨t0, t1⟩ := bx2 XBc
        have hta := XBc.1
        clear y0 y1 hsy bc KC HQB Db Cb XBc
        obtain ⟨F, hF⟩ : ∃ F : List Xp, F = [⟨PCheck.ifS, [], 0, ak, bk, ck⟩] := ⟨_, rfl⟩
        obtain ⟨v5, hv5, O5, b5⟩ : ∃ v5, wc.alloc (.cells #[] 45) = v5 ∧ Hid (v5.ownsRow wc.heap.size 45 xpR.k (.slice (some ⟨wc.heap.size, 0, none⟩) 0 0) ([] : List Xp).length (xpR.cells [])) ∧ Below wc.heap.size wc v5 := ⟨_, rfl, Lib.hid (own_empty wc), (Below.refl _ _).alloc (Nat.le_refl _) _⟩
        have XB5 := HXBc.out.on b5
        obtain ⟨z0, z1⟩ := bx2 XB5
        have hsz := XB5.1
        have HXB5 := Lib.hid XB5
        have E5 := Lib.hid (HE.out.on (below_step Cc.out b5))
        have L5 := b5.size
        have C5 := Lib.hid (below_step Cc.out b5)
        have Lc : w1.heap.size ≤ wc.heap.size := Cc.out.size
        have Lv : w.heap.size < wc.heap.size := HXBc.out.1
        go_upto_region 12 with fail
        clear t0 t1 hta b5 XB5
        go_wp2_with (at_builtin; refine append_recs tree_xpTy rfl _ _ rfl wc.heap.size _ [] rfl O5.out A n c E rfl hc0 E5.out (by simp; omega) L5 ?_)
        intro v6 w6 own6 b6
        obtain ⟨w7, hw7, F7, b7⟩ : ∃ w7, w6.alloc (.cells #[.string ⟨#[105, 102]⟩, .string ⟨#[]⟩, .int .i64 0, .int .i64 ak, .int .i64 bk, .int .i64 ck] 45) = w7 ∧ Hid (SlX xpR w7 (some ⟨w6.heap.size, 0, none⟩) 1 F) ∧ Below w6.heap.size w6 w7 :=
          ⟨_, rfl, Lib.hid (by rw [hF]; exact slx_many w6 45 [⟨PCheck.ifS, [], 0, ak, bk, ck⟩]), (Below.refl _ _).alloc (Nat.le_refl _) _⟩
        have O7 : Hid (w7.ownsRow wc.heap.size 45 xpR.k v6 E.length (xpR.cells E)) := Lib.hid (by rw [hEl]; exact own_kept own6 b7)
        have L7 : wc.heap.size ≤ w7.heap.size := Nat.le_trans (Nat.le_trans L5 b6.size) b7.size
        have B7 := Lib.hid ((b6.trans (b7.mono (Nat.le_trans L5 b6.size))))
        have HF3 := Lib.hid hF
        clear own6 b6 b7 hF z0 z1 hsz O5 E5
        go_wp2_with (at_builtin; refine append_recs tree_xpTy rfl _ _ rfl wc.heap.size _ E rfl O7.out (some ⟨w6.heap.size, 0, none⟩) 1 1 F rfl (fun e => by cases e) F7.out (by omega) L7 ?_)
        intro v8 w8 own8 b8
        obtain ⟨A8, c8, rfl, hA8, hc8, S8⟩ := slr_of_own own8 (by rw [List.length_append, hEl, HF3.out]; rfl)
        obtain ⟨w9, hw9, QB, b9⟩ : ∃ w9, w8.alloc (.cells #[.slice none 0 0, .slice A8 (E.length + 1) c8] 25) = w9 ∧ Box w9 w8.heap.size [.slice none 0 0, .slice A8 (E.length + 1) c8] ∧ Below w8.heap.size w8 w9 := ⟨_, rfl, Box.new _ _ [.slice none 0 0, .slice A8 (E.length + 1) c8], (Below.refl _ _).alloc (Nat.le_refl _) _⟩
        have S9 : Hid (SlX xpR w9 A8 (E.length + 1) (E ++ F)) := Lib.hid (by first | exact S8.on b9 | (rw [hEl]; exact S8.on b9))
        have hc8 : E.length + 1 ≤ c8 := by omega
        have B9 : Below wc.heap.size v5 w9 := B7.out.trans (b8.trans (b9.mono (Nat.le_trans L7 b8.size)))
        have C9 : Hid (Below w1.heap.size w1 w9) := Lib.hid (C5.out.trans (B9.mono Lc))
        have X9 := HXB5.out.keep B9 Lv
        have hq : ∀ x ∈ E ++ F, x.name.length ≤ maxLen := fun x hx => by
          rcases List.mem_append.1 hx with hx | hx
          · exact HX.out x hx
          · rw [HF3.out] at hx
            rw [List.mem_singleton.1 hx]; exact Nat.zero_le _
        have KQ := Lib.hid (kKind_any (TA := none) (tn := 0) (tc := 0) (lc := lc) (r := (E.length : Int)) S9.out hc8 (HL.out.on C9.out) (by omega) (by omega) hq hln)
        obtain ⟨l1, l2, l3⟩ := PCheck.if_law (l := l) (E := E) la lb lc'
        rw [← HF3.out] at l1 l2 l3
        obtain ⟨⟨kq, pq, eq⟩, hG⟩ : ∃ G, PCheck.kind (E ++ F) (E.length : Int) l = G := ⟨_, rfl⟩
        rw [hG] at KQ l1 l2 l3
        have HL1 := Lib.hid l1; have HL2 := Lib.hid l2; have HL3 := Lib.hid l3
        subst hEl
        obtain ⟨q0, q1⟩ := bx2 QB
        have hqs := QB.1
        obtain ⟨x0, x1⟩ := bx2 X9
        have hsx := X9.1
        have HX9 := Lib.hid X9
        clear hw7 hv5 S8 own8 b8 F7 O7 HXB5 l1 l2 l3 hG B9 X9 HXBc
        go_upto_region 13 with fail
        clear hw9 QB b9
        have CASE : (ea ≠ 0 ∧ kq = 0 ∧ eq ≠ 0) ∨ (ea = 0 ∧ eb ≠ 0 ∧ kq = 0 ∧ eq ≠ 0) ∨ (ea = 0 ∧ eb = 0 ∧ ec ≠ 0 ∧ kq = 0 ∧ eq ≠ 0) ∨ (ea = 0 ∧ eb = 0 ∧ ec = 0 ∧ ka = 4 ∧ kb = kc ∧ kq = kb ∧ eq = 0) ∨ (ea = 0 ∧ eb = 0 ∧ ec = 0 ∧ ka ≠ 4 ∧ kq = 0 ∧ pq = E.length ∧ eq = 7) ∨ (ea = 0 ∧ eb = 0 ∧ ec = 0 ∧ ka = 4 ∧ kb ≠ kc ∧ kq = 0 ∧ pq = E.length ∧ eq = 7) := by
          have m1 := HL1.out; have m2 := HL2.out; have m3 := HL3.out
          rcases HFA.out with ⟨f1, f2, f3⟩ | ⟨f1, f2⟩
          · rcases HFB.out with ⟨p1, p2, p3⟩ | ⟨p1, p2⟩
            · rcases HFC.out with ⟨r1, r2, r3⟩ | ⟨r1, r2⟩
              · by_cases e4 : PCheck.K E l ak = 4
                · by_cases e5 : PCheck.K E l bk = PCheck.K E l ck
                  · have h := m1 e4 e5 p1
                    simp only [Prod.mk.injEq] at h
                    exact .inr (.inr (.inr (.inl ⟨f3, p3, r3, f2.trans e4, by rw [p2, r2]; exact e5, by rw [p2]; exact h.1, h.2.2⟩)))
                  · have h := m2 f1 p1 r1 (fun e => e5 e.2)
                    simp only [Prod.mk.injEq] at h
                    exact .inr (.inr (.inr (.inr (.inr ⟨f3, p3, r3, f2.trans e4, by rw [p2, r2]; exact e5, h.1, h.2.1, h.2.2⟩))))
                · have h := m2 f1 p1 r1 (fun e => e4 e.1)
                  simp only [Prod.mk.injEq] at h
                  exact .inr (.inr (.inr (.inr (.inl ⟨f3, p3, r3, by rw [f2]; exact e4, h.1, h.2.1, h.2.2⟩))))
              · have h := m3 (.inr (.inr r1)); exact .inr (.inr (.inl ⟨f3, p3, r2, h.1, h.2⟩))
            · have h := m3 (.inr (.inl p1)); exact .inr (.inl ⟨f3, p2, h.1, h.2⟩)
          · have h := m3 (.inl f1); exact .inl ⟨f2, h.1, h.2⟩
        clear HFA HFB HFC HL1 HL2 HL3
        go_wp2_with fail
        refine (KQ.out).mono ?_
        rintro _ wq ⟨rfl, bq⟩
        have Dq := Lib.hid (below_step C9.out bq)
        have XQ := HX9.out.on bq
        obtain ⟨y0, y1⟩ := bx2 XQ
        have hsy := XQ.1
        clear q0 q1 hqs x0 x1 hsx bq XQ KQ HX9
        go_upto_region 14 with fail
        rcases CASE with ⟨n1, rfl, n2⟩ | ⟨rfl, n1, rfl, n2⟩ | ⟨rfl, rfl, n1, rfl, n2⟩ | ⟨rfl, rfl, rfl, rfl, rfl, rfl, rfl⟩ | ⟨rfl, rfl, rfl, n1, rfl, rfl, rfl⟩ | ⟨rfl, rfl, rfl, rfl, n1, rfl, rfl, rfl⟩
        · have n_ea : ((ea : Int) == 0) = false := by rw [beq_eq_false_iff_ne]; omega
          have m_eq : ((eq : Int) != 0) = true := by rw [bne_iff_ne]; omega
          go_wp2_with fail
          refine (hAw.out _ Dq.out).mono ?_
          rintro _ w5 ⟨rfl, b5⟩
          go_wp2_with fail
          first | exact b5 | (rw [m_eq]; exact b5)
        · have n_eb : ((eb : Int) == 0) = false := by rw [beq_eq_false_iff_ne]; omega
          have m_eq : ((eq : Int) != 0) = true := by rw [bne_iff_ne]; omega
          go_wp2_with fail
          refine (hAw.out _ Dq.out).mono ?_
          rintro _ w5 ⟨rfl, b5⟩
          go_wp2_with fail
          first | exact b5 | (rw [m_eq]; exact b5)
        · have n_ec : ((ec : Int) == 0) = false := by rw [beq_eq_false_iff_ne]; omega
          have m_eq : ((eq : Int) != 0) = true := by rw [bne_iff_ne]; omega
          go_wp2_with fail
          refine (hAw.out _ Dq.out).mono ?_
          rintro _ w5 ⟨rfl, b5⟩
          go_wp2_with fail
          first | exact b5 | (rw [m_eq]; exact b5)
        · go_wp2_with fail
          refine (hAw.out _ Dq.out).mono ?_
          rintro _ w5 ⟨rfl, b5⟩
          go_wp2_with fail
          exact b5
        · have n_4 : (ka == 4) = false := by rw [beq_eq_false_iff_ne]; exact n1
          go_wp2_with fail
          refine (hAw.out _ Dq.out).mono ?_
          rintro _ w5 ⟨rfl, b5⟩
          go_wp2_with fail
          exact b5
        · have n_5 : (kb == kc) = false := by rw [beq_eq_false_iff_ne]; exact n1
          go_wp2_with fail
          refine (hAw.out _ Dq.out).mono ?_
          rintro _ w5 ⟨rfl, b5⟩
          go_wp2_with fail
          exact b5
end Go.Proofs.YtkmehhhgdeiaeaaDoor
