/-
  CheckTwice answers true, where awake does.
-/
import Derived.Test.YtkmehhhgdeiaeaaDoorLaw10IfG
namespace Go.Proofs.YtkmehhhgdeiaeaaDoor
open Go.RowKit
open PCheck (Xp Bd)

set_option maxHeartbeats 6400000 in
set_option maxRecDepth 100000 in
theorem twice_walk (HA : Aw10) {w : World} {RA A LA : Option Addr} {rn rc n c ln lc : Nat} {rows : List Rl10} {E : List Xp} {l : List Bd} {a b' : Int} (hR : SlX rlR w RA rn rows) (hE : SlX xpR w A n E) (hL : SlX bdR w LA ln l) (hr : rn * 40 ≤ 2 ^ 47) (hc : n ≤ c) (hc0 : A = none → c = 0)
    (hs : ∀ x ∈ E, x.name.length ≤ maxLen ∧ x.op.length ≤ maxLen) (hs2 : ∀ x ∈ rows, x.name.length ≤ maxLen ∧ x.kind.length ≤ maxLen) (hln : ∀ b ∈ l, b.name.length ≤ maxLen) (hll : (ln : Int) ≤ 9223372036854775807) (hnn : (n : Int) ≤ 9223372036854775807) :
    Calls Tryd.prog 5 #[.agg #[.slice RA rn rc, .slice A n c], .int .i64 a, .int .i64 b', .slice LA ln lc] w (TrueB w) := by
  obtain ⟨Q, hQ⟩ : ∃ Q, TrueB w = Q := ⟨_, rfl⟩
  rw [hQ]
  have HQ := Lib.hid hQ; have HAh := Lib.hid HA
  obtain ⟨w1, hw1, XB, b1⟩ : ∃ w1, w.alloc (.cells #[.slice RA rn rc, .slice A n c] 25) = w1 ∧ Box w1 w.heap.size [.slice RA rn rc, .slice A n c] ∧ Below w.heap.size w w1 := ⟨_, rfl, Box.new _ _ [.slice RA rn rc, .slice A n c], (Below.refl _ _).alloc (Nat.le_refl _) _⟩
  have HW1 := Lib.hid hw1; have B1 := Lib.hid b1
  have HR := Lib.hid (hR.on b1); have HE := Lib.hid (hE.on b1); have HL := Lib.hid (hL.on b1)
  have HXB := Lib.hid XB
  obtain ⟨x0, x1⟩ := bx2 XB
  have hsx := XB.1
  have hEl : E.length = n := hE.1
  clear hw1 b1 XB hE hL hR hQ HA
  have FIN : Hid (∀ w2 w3, Below w1.heap.size w1 w2 → Below w2.heap.size w2 w3 → Q (.returned (.bool true)) w3) := Lib.hid (fun w2 w3 h2 h3 => by rw [← HQ.out]; exact ⟨rfl, below_step (below_step B1.out h2) h3⟩)
  by_cases g1 : (200 : Int) < (n : Int)
  · go_enter Tryd.func5, Tryd.ntmps5
    go_upto_region 1 with fail
    rw [HW1.out]
    go_wp2_with fail
    refine (HAh.out _).mono ?_
    rintro _ w3 ⟨rfl, b3⟩
    go_wp2_with fail
    exact FIN.out _ _ (Below.refl _ _) b3
  have RF := Lib.hid (guard_any (ca := rc) (cb := c) HR.out HE.out hr (by omega))
  go_enter Tryd.func5, Tryd.ntmps5
  go_upto_region 1 with fail
  rw [HW1.out]
  clear HW1
  go_wp2_with fail
  refine RF.out.mono ?_
  rintro _ w2 ⟨A2, ca2, B2, cb2, rfl, hr2, he2, b2⟩
  have SM := Lib.hid (small_any (ca := ca2) (cb := cb2) hr2 he2 hs hs2)
  have XB2 := HXB.out.on b2
  obtain ⟨y0, y1⟩ := bx2 XB2
  have hsy := XB2.1
  have HXB2 := Lib.hid XB2
  have C2 := Lib.hid b2
  clear hr2 he2 b2 XB2 HXB RF x0 x1 hsx hs hs2
  go_wp2_with fail
  refine SM.out.mono ?_
  rintro _ w3 ⟨b, rfl, hb, b3⟩
  have XB3 := HXB2.out.on b3
  obtain ⟨z0, z1⟩ := bx2 XB3
  have hsz := XB3.1
  have HXB3 := Lib.hid XB3
  have C3 := Lib.hid (below_step C2.out b3)
  have HB := Lib.hid hb
  clear b3 XB3 HXB2 y0 y1 hsy SM HR hb C2
  have hAw : Hid (∀ wa, Below w1.heap.size w1 wa → Calls Tryd.prog 11 #[] wa fun e w' => e = .returned (.bool true) ∧ Q (.returned (.bool true)) w') := Lib.hid (fun wa h => (HAh.out wa).mono fun _ _ ⟨h1, h2⟩ => ⟨h1, FIN.out _ _ h h2⟩)
  cases b with
  | false =>
    go_wp2_with fail
    refine (hAw.out _ C3.out).mono ?_
    rintro _ w4 ⟨rfl, b4⟩
    go_wp2_with fail
    exact b4
  | true =>
    obtain ⟨hb1, hb2, hb3⟩ := HB.out rfl
    by_cases g2 : (60 : Int) < (ln : Int)
    · go_wp2_with fail
      refine (hAw.out _ C3.out).mono ?_
      rintro _ w4 ⟨rfl, b4⟩
      go_wp2_with fail
      exact b4
    have hxn : ∀ x ∈ E, x.name.length ≤ maxLen := fun x hx => Nat.le_trans (hb3 x hx) (by unfold maxLen; omega)
    have HX := Lib.hid hxn
    have KD : Hid (∀ (wx : World) (r : Int), Below w3.heap.size w3 wx → Calls Tryd.prog 12 #[.agg #[.slice RA rn rc, .slice A n c], .int .i64 r, .slice LA ln lc] wx (KdAns (PCheck.kind E r l) wx)) := Lib.hid (fun wx r h =>
      kKind_any (TA := RA) (tn := rn) (tc := rc) (lc := lc) (r := r) (HE.out.on (below_step C3.out h)) hc (HL.out.on (below_step C3.out h)) (by omega) (by omega) hxn hln)
    obtain ⟨⟨ja, pa, ea⟩, hka⟩ : ∃ G, PCheck.kind E a l = G := ⟨_, rfl⟩
    obtain ⟨⟨jb, pb, eb⟩, hkb⟩ : ∃ G, PCheck.kind E b' l = G := ⟨_, rfl⟩
    have KA := Lib.hid (fun wx h => KD.out wx a h)
    have KB := Lib.hid (fun wx h => KD.out wx b' h)
    rw [hka] at KA
    rw [hkb] at KB
    have HKA := Lib.hid hka; have HKB := Lib.hid hkb
    clear hka hkb KD hxn hb3 HB
    go_wp2_with fail
    refine (KA.out _ (Below.refl _ _)).mono ?_
    rintro _ wa ⟨rfl, ba⟩
    have Da := Lib.hid ba
    have Ca := Lib.hid (below_step C3.out ba)
    have QA := HXB3.out.on ba
    obtain ⟨t0, t1⟩ := bx2 QA
    have hta := QA.1
    have HQA := Lib.hid QA
    clear z0 z1 hsz ba QA KA HXB3
    go_wp2_with fail
    refine (KB.out _ Da.out).mono ?_
    rintro _ wc ⟨rfl, bb⟩
    have Cc := Lib.hid (below_step Ca.out bb)
    have XBc := HQA.out.on bb
    have HXBc := Lib.hid XBc
    obtain ⟨t0', t1'⟩ := bx2 XBc
    have hta' := XBc.1
    clear t0 t1 hta bb XBc KB HQA Da Ca
    go_upto_region 5 with fail
    by_cases hea : ea = 0
    · by_cases heb : eb = 0
      · subst hea; subst heb
        obtain ⟨ga1, ga2, ga3, ga4⟩ := PCheck.kind_ok (l := l) (E := E) (r := a) (by rw [HKA.out])
        obtain ⟨gb1, gb2, gb3, gb4⟩ := PCheck.kind_ok (l := l) (E := E) (r := b') (by rw [HKB.out])
        have hja : ja = PCheck.K E l a.toNat := by have h := HKA.out.symm.trans ga4; simp only [Prod.mk.injEq] at h; exact h.1
        have hjb : jb = PCheck.K E l b'.toNat := by have h := HKB.out.symm.trans gb4; simp only [Prod.mk.injEq] at h; exact h.1
        rw [← hja] at ga3
        rw [← hjb] at gb3
        clear ga4 gb4 HKA HKB
        obtain ⟨ak, rfl⟩ : ∃ ak : Nat, a = ak := ⟨a.toNat, by omega⟩
        obtain ⟨bk, rfl⟩ : ∃ bk : Nat, b' = bk := ⟨b'.toNat, by omega⟩
        rw [Int.toNat_natCast] at hja hjb
        have la : ak < E.length := by omega
        have lb : bk < E.length := by omega
        have f4a := PCheck.K_four (E := E) (l := l) ak
        rw [← hja] at f4a
        have na : (ak : Int) < (n : Int) := by omega
        have nb : (bk : Int) < (n : Int) := by omega
        have HJA := Lib.hid hja; have HJB := Lib.hid hjb; have HGA := Lib.hid ga3; have HGB := Lib.hid gb3; have HF4 := Lib.hid f4a
        clear hja hjb ga3 gb3 f4a
        obtain ⟨F, hF⟩ : ∃ F : List Xp, F = [⟨[43], [], 0, ak, bk, 0⟩, ⟨[60], [], 0, ak, bk, 0⟩, ⟨PCheck.wholeS, [], 0, 0, 0, 0⟩, ⟨[60], [], 0, (n : Int) + 2, (n : Int) + 2, 0⟩, ⟨PCheck.ifS, [], 0, (n : Int) + 3, ak, bk⟩] := ⟨_, rfl⟩
        obtain ⟨v5, hv5, O5, b5⟩ : ∃ v5, wc.alloc (.cells #[] 45) = v5 ∧ Hid (v5.ownsRow wc.heap.size 45 xpR.k (.slice (some ⟨wc.heap.size, 0, none⟩) 0 0) ([] : List Xp).length (xpR.cells [])) ∧ Below wc.heap.size wc v5 := ⟨_, rfl, Lib.hid (own_empty wc), (Below.refl _ _).alloc (Nat.le_refl _) _⟩
        have XB5 := HXBc.out.on b5
        obtain ⟨z0, z1⟩ := bx2 XB5
        have hsz := XB5.1
        have E5 := Lib.hid (HE.out.on (below_step Cc.out b5))
        have L5 := b5.size
        have C5 := Lib.hid (below_step Cc.out b5)
        have Lc : w1.heap.size ≤ wc.heap.size := Cc.out.size
        go_upto_region 8 with fail
        clear t0' t1' hta' b5 XB5 HXBc
        go_wp2_with (at_builtin; refine append_recs tree_xpTy rfl _ _ rfl wc.heap.size _ [] rfl O5.out A n c E rfl hc0 E5.out (by simp; omega) L5 ?_)
        intro v6 w6 own6 b6
        obtain ⟨w7, hw7, F7, b7⟩ : ∃ w7, w6.alloc (.cells #[.string ⟨#[43]⟩, .string ⟨#[]⟩, .int .i64 0, .int .i64 ak, .int .i64 bk, .int .i64 0, .string ⟨#[60]⟩, .string ⟨#[]⟩, .int .i64 0, .int .i64 ak, .int .i64 bk, .int .i64 0, .string ⟨#[119, 104, 111, 108, 101]⟩, .string ⟨#[]⟩, .int .i64 0, .int .i64 0, .int .i64 0, .int .i64 0, .string ⟨#[60]⟩, .string ⟨#[]⟩, .int .i64 0, .int .i64 ((n : Int) + 2), .int .i64 ((n : Int) + 2), .int .i64 0, .string ⟨#[105, 102]⟩, .string ⟨#[]⟩, .int .i64 0, .int .i64 ((n : Int) + 3), .int .i64 ak, .int .i64 bk] 45) = w7 ∧ Hid (SlX xpR w7 (some ⟨w6.heap.size, 0, none⟩) 5 F) ∧ Below w6.heap.size w6 w7 :=
          ⟨_, rfl, Lib.hid (by rw [hF]; exact slx_many w6 45 [⟨[43], [], 0, ak, bk, 0⟩, ⟨[60], [], 0, ak, bk, 0⟩, ⟨PCheck.wholeS, [], 0, 0, 0, 0⟩, ⟨[60], [], 0, (n : Int) + 2, (n : Int) + 2, 0⟩, ⟨PCheck.ifS, [], 0, (n : Int) + 3, ak, bk⟩]), (Below.refl _ _).alloc (Nat.le_refl _) _⟩
        have O7 : Hid (w7.ownsRow wc.heap.size 45 xpR.k v6 E.length (xpR.cells E)) := Lib.hid (by rw [hEl]; exact own_kept own6 b7)
        have L7 : wc.heap.size ≤ w7.heap.size := Nat.le_trans (Nat.le_trans L5 b6.size) b7.size
        have B7 := Lib.hid ((b6.trans (b7.mono (Nat.le_trans L5 b6.size))))
        have HF3 := Lib.hid hF
        clear own6 b6 b7 hF z0 z1 hsz O5 E5
        go_wp2_with (at_builtin; refine append_recs tree_xpTy rfl _ _ rfl wc.heap.size _ E rfl O7.out (some ⟨w6.heap.size, 0, none⟩) 5 5 F rfl (fun e => by cases e) F7.out (by omega) L7 ?_)
        intro v8 w8 own8 b8
        obtain ⟨A8, c8, rfl, hA8, hc8, S8⟩ := slr_of_own own8 (by rw [List.length_append, hEl, HF3.out]; rfl)
        obtain ⟨w9, hw9, QB, b9⟩ : ∃ w9, w8.alloc (.cells #[.slice none 0 0, .slice A8 (E.length + 5) c8] 25) = w9 ∧ Box w9 w8.heap.size [.slice none 0 0, .slice A8 (E.length + 5) c8] ∧ Below w8.heap.size w8 w9 := ⟨_, rfl, Box.new _ _ [.slice none 0 0, .slice A8 (E.length + 5) c8], (Below.refl _ _).alloc (Nat.le_refl _) _⟩
        have S9 : Hid (SlX xpR w9 A8 (E.length + 5) (E ++ F)) := Lib.hid (by first | exact S8.on b9 | (rw [hEl]; exact S8.on b9))
        have hc8 : E.length + 5 ≤ c8 := by omega
        have C9 : Hid (Below w1.heap.size w1 w9) := Lib.hid (C5.out.trans ((B7.out.trans (b8.trans (b9.mono (Nat.le_trans L7 b8.size)))).mono Lc))
        have hq : ∀ x ∈ E ++ F, x.name.length ≤ maxLen := fun x hx => by
          rcases List.mem_append.1 hx with hx | hx
          · exact HX.out x hx
          · rw [HF3.out] at hx
            simp only [List.mem_cons, List.not_mem_nil, or_false] at hx
            rcases hx with rfl | rfl | rfl | rfl | rfl <;> exact Nat.zero_le _
        have KQ : Hid (∀ (wx : World) (r : Int), Below w9.heap.size w9 wx → Calls Tryd.prog 12 #[.agg #[.slice none 0 0, .slice A8 (E.length + 5) c8], .int .i64 r, .slice LA ln lc] wx (KdAns (PCheck.kind (E ++ F) r l) wx)) := Lib.hid (fun wx r h =>
          kKind_any (TA := none) (tn := 0) (tc := 0) (lc := lc) (r := r) (S9.out.on h) hc8 (HL.out.on (below_step C9.out h)) (by omega) (by omega) hq hln)
        obtain ⟨m1, m2, m3⟩ := PCheck.twice_law (l := l) (E := E) la lb (n := (n : Int)) (by omega) HF3.out
        rw [← HJA.out, ← HJB.out] at m1 m2 m3
        have lF : (E ++ F).length = E.length + 5 := by rw [List.length_append, HF3.out]; rfl
        obtain ⟨s1, p1, e1, hG1, d1⟩ := kind_two (l := l) (E := E ++ F) (r := E.length) (by omega)
        obtain ⟨s2, p2, e2, hG2, d2⟩ := kind_two (l := l) (E := E ++ F) (r := E.length + 1) (by omega)
        obtain ⟨s3, p3, e3, hG3, d3⟩ := kind_two (l := l) (E := E ++ F) (r := E.length + 4) (by omega)
        rw [m1] at d1
        rw [m2] at d2
        rw [m3] at d3
        have ek1 : ((E.length + 1 : Nat) : Int) = (E.length : Int) + 1 := by omega
        have ek4 : ((E.length + 4 : Nat) : Int) = (E.length : Int) + 4 := by omega
        rw [ek1] at hG2
        rw [ek4] at hG3
        have KQ1 := Lib.hid (fun wx h => KQ.out wx (E.length : Int) h)
        have KQ2 := Lib.hid (fun wx h => KQ.out wx ((E.length : Int) + 1) h)
        have KQ3 := Lib.hid (fun wx h => KQ.out wx ((E.length : Int) + 4) h)
        rw [hG1] at KQ1
        rw [hG2] at KQ2
        rw [hG3] at KQ3
        have CASE : (ja = 1 ∧ jb = 1 ∧ e1 = 0 ∧ s1 = 1 ∧ e2 = 0 ∧ s2 = 4 ∧ e3 = 0 ∧ s3 = 1) ∨ (ja = 2 ∧ jb = 2 ∧ e1 ≠ 0 ∧ e2 = 0 ∧ s2 = 4 ∧ e3 = 0 ∧ s3 = 2) ∨ (ja = 3 ∧ jb = 3 ∧ e1 = 0 ∧ s1 = 3 ∧ e2 = 0 ∧ s2 = 4 ∧ e3 = 0 ∧ s3 = 3) ∨ (ja = 4 ∧ jb = 4 ∧ e1 ≠ 0 ∧ e2 ≠ 0 ∧ e3 = 0 ∧ s3 = 4) ∨ (ja ≠ jb ∧ e1 ≠ 0 ∧ e2 ≠ 0 ∧ e3 ≠ 0) := by
          have x4 := HF4.out; have x0 := HGA.out
          by_cases hj : ja = jb
          · subst hj
            rcases x4 with h | h | h | h | h
            · exact absurd h x0
            · subst h
              have y1 : PCheck.oneOf (PCheck.common 1 1) [1, 3] = 1 := by decide
              have y2 : PCheck.flag (PCheck.oneOf (PCheck.common 1 1) [1, 2, 3]) = 4 := by decide
              have y3 : PCheck.common 1 1 = 1 := by decide
              rw [y1] at d1; rw [y2] at d2; rw [y3] at d3
              exact .inl ⟨rfl, rfl, by omega, by omega, by omega, by omega, by omega, by omega⟩
            · subst h
              have y1 : PCheck.oneOf (PCheck.common 2 2) [1, 3] = 0 := by decide
              have y2 : PCheck.flag (PCheck.oneOf (PCheck.common 2 2) [1, 2, 3]) = 4 := by decide
              have y3 : PCheck.common 2 2 = 2 := by decide
              rw [y1] at d1; rw [y2] at d2; rw [y3] at d3
              exact .inr (.inl ⟨rfl, rfl, by omega, by omega, by omega, by omega, by omega⟩)
            · subst h
              have y1 : PCheck.oneOf (PCheck.common 3 3) [1, 3] = 3 := by decide
              have y2 : PCheck.flag (PCheck.oneOf (PCheck.common 3 3) [1, 2, 3]) = 4 := by decide
              have y3 : PCheck.common 3 3 = 3 := by decide
              rw [y1] at d1; rw [y2] at d2; rw [y3] at d3
              exact .inr (.inr (.inl ⟨rfl, rfl, by omega, by omega, by omega, by omega, by omega, by omega⟩))
            · subst h
              have y1 : PCheck.oneOf (PCheck.common 4 4) [1, 3] = 0 := by decide
              have y2 : PCheck.flag (PCheck.oneOf (PCheck.common 4 4) [1, 2, 3]) = 0 := by decide
              have y3 : PCheck.common 4 4 = 4 := by decide
              rw [y1] at d1; rw [y2] at d2; rw [y3] at d3
              exact .inr (.inr (.inr (.inl ⟨rfl, rfl, by omega, by omega, by omega, by omega⟩)))
          · have y3 : PCheck.common ja jb = 0 := by unfold PCheck.common; rw [if_neg hj]
            rw [y3] at d1 d2 d3
            have y1 : PCheck.oneOf 0 [1, 3] = 0 := by decide
            have y2 : PCheck.flag (PCheck.oneOf 0 [1, 2, 3]) = 0 := by decide
            rw [y1] at d1; rw [y2] at d2
            exact .inr (.inr (.inr (.inr ⟨hj, by omega, by omega, by omega⟩)))
        subst hEl
        obtain ⟨q0, q1⟩ := bx2 QB
        have hqs := QB.1
        have HQB := Lib.hid QB
        clear hw7 hv5 S8 own8 QB b8 F7 O7 KQ d1 d2 d3 hG1 hG2 hG3 m1 m2 m3 HJA HJB HGA HGB HF4
        go_upto_region 9 with fail
        clear hw9 b9
        go_wp2_with fail
        refine (KQ1.out _ (Below.refl _ _)).mono ?_
        rintro _ wd ⟨rfl, bd⟩
        have Dd := Lib.hid bd
        have QA := HQB.out.on bd
        obtain ⟨t0, t1⟩ := bx2 QA
        have hta := QA.1
        clear q0 q1 hqs bd QA KQ1
        go_wp2_with fail
        refine (KQ2.out _ Dd.out).mono ?_
        rintro _ we ⟨rfl, be⟩
        have De := Lib.hid (below_step Dd.out be)
        have QA := HQB.out.on De.out
        obtain ⟨q0, q1⟩ := bx2 QA
        have hqs := QA.1
        clear t0 t1 hta be QA KQ2 Dd
        go_wp2_with fail
        refine (KQ3.out _ De.out).mono ?_
        rintro _ wf ⟨rfl, bf⟩
        have Df := Lib.hid (below_step C9.out (below_step De.out bf))
        clear q0 q1 hqs bf KQ3 De
        go_upto_region 12 with fail
        rcases CASE with ⟨rfl, rfl, rfl, rfl, rfl, rfl, rfl, rfl⟩ | ⟨rfl, rfl, n1, rfl, rfl, rfl, rfl⟩ | ⟨rfl, rfl, rfl, rfl, rfl, rfl, rfl, rfl⟩ | ⟨rfl, rfl, n1, n2, rfl, rfl⟩ | ⟨nj, n1, n2, n3⟩
        · go_wp2_with fail
          refine (hAw.out _ Df.out).mono ?_
          rintro _ w5 ⟨rfl, b5⟩
          go_wp2_with fail
          exact b5
        · have n_e1 : ((e1 : Int) == 0) = false := by rw [beq_eq_false_iff_ne]; omega
          go_wp2_with fail
          refine (hAw.out _ Df.out).mono ?_
          rintro _ w5 ⟨rfl, b5⟩
          go_wp2_with fail
          exact b5
        · go_wp2_with fail
          refine (hAw.out _ Df.out).mono ?_
          rintro _ w5 ⟨rfl, b5⟩
          go_wp2_with fail
          exact b5
        · have n_e1 : ((e1 : Int) == 0) = false := by rw [beq_eq_false_iff_ne]; omega
          have n_e2 : ((e2 : Int) == 0) = false := by rw [beq_eq_false_iff_ne]; omega
          go_wp2_with fail
          refine (hAw.out _ Df.out).mono ?_
          rintro _ w5 ⟨rfl, b5⟩
          go_wp2_with fail
          exact b5
        · have n_j : (ja == jb) = false := by rw [beq_eq_false_iff_ne]; exact nj
          have n_e1 : ((e1 : Int) == 0) = false := by rw [beq_eq_false_iff_ne]; omega
          have n_e2 : ((e2 : Int) == 0) = false := by rw [beq_eq_false_iff_ne]; omega
          have n_e3 : ((e3 : Int) == 0) = false := by rw [beq_eq_false_iff_ne]; omega
          go_wp2_with fail
          refine (hAw.out _ Df.out).mono ?_
          rintro _ w5 ⟨rfl, b5⟩
          go_wp2_with fail
          exact b5
      · have n_eb : ((eb : Int) == 0) = false := by rw [beq_eq_false_iff_ne]; omega
        go_wp2_with fail
        refine (hAw.out _ Cc.out).mono ?_
        rintro _ w5 ⟨rfl, b5⟩
        go_wp2_with fail
        exact b5
    · have n_ea : ((ea : Int) == 0) = false := by rw [beq_eq_false_iff_ne]; omega
      go_wp2_with fail
      refine (hAw.out _ Cc.out).mono ?_
      rintro _ w5 ⟨rfl, b5⟩
      go_wp2_with fail
      exact b5
end Go.Proofs.YtkmehhhgdeiaeaaDoor
