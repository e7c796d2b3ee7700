/-
  CheckNeg answers true, where awake does.
-/
import Derived.Test.YtkmehhhgdeiaeaaDoorLaw10SmallG
import Derived.Test.YtkmehhhgdeiaeaaDoorLaw10NamesG
import Derived.Test.YtkmehhhgdeiaeaaDoorCM
namespace Go.Proofs.YtkmehhhgdeiaeaaDoor
open Go.RowKit
open PCheck (Xp Bd)

theorem tree_xpTy : RecTy xpR 45 23 64 where
  info := ⟨.agg #[.string ⟨#[]⟩, .string ⟨#[]⟩, .int .i64 0, .int .i64 0, .int .i64 0, .int .i64 0], by kernel_rfl, by rfl⟩
  under := by kernel_rfl
  few := by decide
theorem slx_many (w : World) (t : TypeId) (xs : List Xp) : SlX xpR (w.alloc (.cells (xpR.cells xs).toArray t)) (some ⟨w.heap.size, 0, none⟩) xs.length xs := by
  refine ⟨rfl, .inr ⟨w.heap.size, 0, rfl, fun i hi j v e => ?_⟩⟩
  have h := (Box.new w t (xpR.cells xs)).c _ (xpR.cells_get xs i hi j v e)
  rw [Nat.zero_add]
  exact h
theorem own_empty (w : World) : (w.alloc (.cells #[] 45)).ownsRow w.heap.size 45 xpR.k (.slice (some ⟨w.heap.size, 0, none⟩) 0 0) ([] : List Xp).length (xpR.cells []) :=
  World.ownsRow_made w #[] 0 (Nat.le_refl _) (Nat.zero_le _) rfl
/-- What the guard of stage 10's statements asks of a program: ref, and Small of it. -/
theorem guard_any {w : World} {A B : Option Addr} {n m ca cb : Nat} {rows : List Rl10} {exs : List Xp} (hA : SlX rlR w A n rows) (hB : SlX xpR w B m exs) (hr : n * 40 ≤ 2 ^ 47) (he : m ≤ 90000) :
    Calls Tryd.prog 10 #[.agg #[.slice A n ca, .slice B m cb]] w fun e w' => ∃ A' ca' B' cb', e = .returned (.agg #[.slice A' n ca', .slice B' m cb']) ∧ SlX rlR w' A' n rows ∧ SlX xpR w' B' m exs ∧ Below w.heap.size w w' := by
  obtain rfl := hA.1
  obtain rfl := hB.1
  exact (tref_any hA hB hr he).mono fun _ _ ⟨A', ca', B', cb', h1, h2, h3, _, _, h8⟩ => ⟨A', ca', B', cb', h1, h2, h3, h8⟩
set_option maxHeartbeats 6400000 in
set_option maxRecDepth 100000 in
theorem neg_walk (HA : Aw10) {w : World} {RA A LA : Option Addr} {rn rc n c ln lc : Nat} {rows : List Rl10} {E : List Xp} {l : List Bd} {a : Int} (hR : SlX rlR w RA rn rows) (hE : SlX xpR w A n E) (hL : SlX bdR w LA ln l) (hr : rn * 40 ≤ 2 ^ 47) (hc : n ≤ c) (hc0 : A = none → c = 0)
    (hs : ∀ x ∈ E, x.name.length ≤ maxLen ∧ x.op.length ≤ maxLen) (hs2 : ∀ x ∈ rows, x.name.length ≤ maxLen ∧ x.kind.length ≤ maxLen) (hln : ∀ b ∈ l, b.name.length ≤ maxLen) (hll : (ln : Int) ≤ 9223372036854775807) (hnn : (n : Int) ≤ 9223372036854775807) :
    Calls Tryd.prog 7 #[.agg #[.slice RA rn rc, .slice A n c], .int .i64 a, .slice LA ln lc] w (TrueB w) := by
  obtain ⟨Q, hQ⟩ : ∃ Q, TrueB w = Q := ⟨_, rfl⟩
  rw [hQ]
  have HQ := Lib.hid hQ; have HAh := Lib.hid HA
  obtain ⟨w1, hw1, XB, b1⟩ : ∃ w1, w.alloc (.cells #[.slice RA rn rc, .slice A n c] 25) = w1 ∧ Box w1 w.heap.size [.slice RA rn rc, .slice A n c] ∧ Below w.heap.size w w1 := ⟨_, rfl, Box.new _ _ [.slice RA rn rc, .slice A n c], (Below.refl _ _).alloc (Nat.le_refl _) _⟩
  have HW1 := Lib.hid hw1; have B1 := Lib.hid b1
  have HR := Lib.hid (hR.on b1); have HE := Lib.hid (hE.on b1); have HL := Lib.hid (hL.on b1)
  have HXB := Lib.hid XB
  obtain ⟨x0, x1⟩ := bx2 XB
  have hsx := XB.1
  have hEl : E.length = n := hE.1
  clear hw1 b1 XB hE hL hR hQ HA
  have FIN : Hid (∀ w2 w3, Below w1.heap.size w1 w2 → Below w2.heap.size w2 w3 → Q (.returned (.bool true)) w3) := Lib.hid (fun w2 w3 h2 h3 => by rw [← HQ.out]; exact ⟨rfl, below_step (below_step B1.out h2) h3⟩)
  by_cases g1 : (200 : Int) < (n : Int)
  · go_enter Tryd.func7, Tryd.ntmps7
    go_upto_region 1 with fail
    rw [HW1.out]
    go_wp2_with fail
    refine (HAh.out _).mono ?_
    rintro _ w3 ⟨rfl, b3⟩
    go_wp2_with fail
    exact FIN.out _ _ (Below.refl _ _) b3
  have RF := Lib.hid (guard_any (ca := rc) (cb := c) HR.out HE.out hr (by omega))
  go_enter Tryd.func7, Tryd.ntmps7
  go_upto_region 1 with fail
  rw [HW1.out]
  clear HW1
  go_wp2_with fail
  refine RF.out.mono ?_
  rintro _ w2 ⟨A2, ca2, B2, cb2, rfl, hr2, he2, b2⟩
  have SM := Lib.hid (small_any (ca := ca2) (cb := cb2) hr2 he2 hs hs2)
  have XB2 := HXB.out.on b2
  obtain ⟨y0, y1⟩ := bx2 XB2
  have hsy := XB2.1
  have HXB2 := Lib.hid XB2
  have C2 := Lib.hid b2
  clear hr2 he2 b2 XB2 HXB RF x0 x1 hsx hs hs2
  go_wp2_with fail
  refine SM.out.mono ?_
  rintro _ w3 ⟨b, rfl, hb, b3⟩
  have XB3 := HXB2.out.on b3
  obtain ⟨z0, z1⟩ := bx2 XB3
  have hsz := XB3.1
  have HXB3 := Lib.hid XB3
  have C3 := Lib.hid (below_step C2.out b3)
  have HB := Lib.hid hb
  clear b3 XB3 HXB2 y0 y1 hsy SM HR hb C2
  have hAw : Hid (∀ wa, Below w1.heap.size w1 wa → Calls Tryd.prog 11 #[] wa fun e w' => e = .returned (.bool true) ∧ Q (.returned (.bool true)) w') := Lib.hid (fun wa h => (HAh.out wa).mono fun _ _ ⟨h1, h2⟩ => ⟨h1, FIN.out _ _ h h2⟩)
  cases b with
  | false =>
    go_wp2_with fail
    refine (hAw.out _ C3.out).mono ?_
    rintro _ w4 ⟨rfl, b4⟩
    go_wp2_with fail
    exact b4
  | true =>
    obtain ⟨hb1, hb2, hb3⟩ := HB.out rfl
    by_cases g2 : (60 : Int) < (ln : Int)
    · go_wp2_with fail
      refine (hAw.out _ C3.out).mono ?_
      rintro _ w4 ⟨rfl, b4⟩
      go_wp2_with fail
      exact b4
    by_cases g3 : a < 0
    · go_wp2_with fail
      refine (hAw.out _ C3.out).mono ?_
      rintro _ w4 ⟨rfl, b4⟩
      go_wp2_with fail
      exact b4
    by_cases g4 : (n : Int) ≤ a
    · go_wp2_with fail
      refine (hAw.out _ C3.out).mono ?_
      rintro _ w4 ⟨rfl, b4⟩
      go_wp2_with fail
      exact b4
    obtain ⟨ak, rfl⟩ : ∃ ak : Nat, a = ak := ⟨a.toNat, by omega⟩
    have hxn : ∀ x ∈ E, x.name.length ≤ maxLen := fun x hx => Nat.le_trans (hb3 x hx) (by unfold maxLen; omega)
    have KD := Lib.hid (kKind_any (TA := RA) (tn := rn) (tc := rc) (lc := lc) (r := (ak : Int)) (HE.out.on C3.out) hc (HL.out.on C3.out) (by omega) (by omega) hxn hln)
    have HX := Lib.hid hxn
    by_cases he : (PCheck.kind E (ak : Int) l).2.2 = 0
    · obtain ⟨-, -, hk0, hk⟩ := PCheck.kind_ok he
      rw [Int.toNat_natCast] at hk0 hk
      rw [hk] at KD
      obtain ⟨kk, hkk⟩ : ∃ k, PCheck.K E l ak = k := ⟨_, rfl⟩
      rw [hkk] at KD
      have HKK := Lib.hid hkk
      clear he hk hxn HB hb3 hkk
      go_wp2_with fail
      refine (KD.out).mono ?_
      rintro _ w4 ⟨rfl, b4⟩
      have C4 := Lib.hid (below_step C3.out b4)
      have XB4 := HXB3.out.on b4
      obtain ⟨y0, y1⟩ := bx2 XB4
      have hsy := XB4.1
      have HXB4 := Lib.hid XB4
      clear b4 KD C3 HXB3 XB4 z0 z1 hsz
      go_upto_region 7 with fail
      obtain ⟨F, hF⟩ : ∃ F : List Xp, F = [⟨PCheck.negS, [], 0, ak, 0, 0⟩, ⟨[109, 105, 110], [], 0, ak, ak, 0⟩, ⟨[61], [], 0, ak, ak, 0⟩] := ⟨_, rfl⟩
      obtain ⟨v5, hv5, O5, b5⟩ : ∃ v5, w4.alloc (.cells #[] 45) = v5 ∧ Hid (v5.ownsRow w4.heap.size 45 xpR.k (.slice (some ⟨w4.heap.size, 0, none⟩) 0 0) ([] : List Xp).length (xpR.cells [])) ∧ Below w4.heap.size w4 v5 := ⟨_, rfl, Lib.hid (own_empty w4), (Below.refl _ _).alloc (Nat.le_refl _) _⟩
      have XB5 := HXB4.out.on b5
      obtain ⟨z0, z1⟩ := bx2 XB5
      have hsz := XB5.1
      have HXB5 := Lib.hid XB5
      have E5 := Lib.hid (HE.out.on (below_step C4.out b5))
      have L5 := b5.size
      have C5 := Lib.hid (below_step C4.out b5)
      clear b5 XB5 HXB4 y0 y1 hsy
      go_wp2_with (at_builtin; refine append_recs tree_xpTy rfl _ _ rfl w4.heap.size _ [] rfl O5.out A n c E rfl hc0 E5.out (by simp; omega) L5 ?_)
      intro v6 w6 own6 b6
      obtain ⟨w7, hw7, F7, b7⟩ : ∃ w7, w6.alloc (.cells #[.string ⟨#[110, 101, 103]⟩, .string ⟨#[]⟩, .int .i64 0, .int .i64 ak, .int .i64 0, .int .i64 0, .string ⟨#[109, 105, 110]⟩, .string ⟨#[]⟩, .int .i64 0, .int .i64 ak, .int .i64 ak, .int .i64 0, .string ⟨#[61]⟩, .string ⟨#[]⟩, .int .i64 0, .int .i64 ak, .int .i64 ak, .int .i64 0] 45) = w7 ∧ Hid (SlX xpR w7 (some ⟨w6.heap.size, 0, none⟩) 3 F) ∧ Below w6.heap.size w6 w7 :=
        ⟨_, rfl, Lib.hid (by rw [hF]; exact slx_many w6 45 [⟨PCheck.negS, [], 0, ak, 0, 0⟩, ⟨[109, 105, 110], [], 0, ak, ak, 0⟩, ⟨[61], [], 0, ak, ak, 0⟩]), (Below.refl _ _).alloc (Nat.le_refl _) _⟩
      have O7 : Hid (w7.ownsRow w4.heap.size 45 xpR.k v6 E.length (xpR.cells E)) := Lib.hid (by rw [hEl]; exact own_kept own6 b7)
      have L7 : w4.heap.size ≤ w7.heap.size := Nat.le_trans (Nat.le_trans L5 b6.size) b7.size
      have B7 := Lib.hid ((b6.trans (b7.mono (Nat.le_trans L5 b6.size))))
      have HF3 := Lib.hid hF
      clear own6 b6 b7 hF z0 z1 hsz O5 E5
      go_wp2_with (at_builtin; refine append_recs tree_xpTy rfl _ _ rfl w4.heap.size _ E rfl O7.out (some ⟨w6.heap.size, 0, none⟩) 3 3 F rfl (fun e => by cases e) F7.out (by omega) L7 ?_)
      intro v8 w8 own8 b8
      obtain ⟨A8, c8, rfl, hA8, hc8, S8⟩ := slr_of_own own8 (by rw [List.length_append, hEl, HF3.out]; rfl)
      obtain ⟨w9, hw9, QB, b9⟩ : ∃ w9, w8.alloc (.cells #[.slice none 0 0, .slice A8 (E.length + 3) c8] 25) = w9 ∧ Box w9 w8.heap.size [.slice none 0 0, .slice A8 (E.length + 3) c8] ∧ Below w8.heap.size w8 w9 := ⟨_, rfl, Box.new _ _ [.slice none 0 0, .slice A8 (E.length + 3) c8], (Below.refl _ _).alloc (Nat.le_refl _) _⟩
      have S9 : Hid (SlX xpR w9 A8 (E.length + 3) (E ++ F)) := Lib.hid (by first | exact S8.on b9 | (rw [hEl]; exact S8.on b9))
      have hc8 : E.length + 3 ≤ c8 := by omega
      have C9 : Hid (Below w1.heap.size w1 w9) := Lib.hid (C5.out.trans ((B7.out.trans (b8.trans (b9.mono (Nat.le_trans L7 b8.size)))).mono C4.out.size))
      have hq : ∀ x ∈ E ++ F, x.name.length ≤ maxLen := fun x hx => by
        rcases List.mem_append.1 hx with hx | hx
        · exact HX.out x hx
        · rw [HF3.out] at hx
          simp only [List.mem_cons, List.not_mem_nil, or_false] at hx
          rcases hx with rfl | rfl | rfl <;> exact Nat.zero_le _
      have KQ : Hid (∀ (wx : World) (r : Int), Below w9.heap.size w9 wx → Calls Tryd.prog 12 #[.agg #[.slice none 0 0, .slice A8 (E.length + 3) c8], .int .i64 r, .slice LA ln lc] wx (KdAns (PCheck.kind (E ++ F) r l) wx)) := Lib.hid (fun wx r h =>
        kKind_any (TA := none) (tn := 0) (tc := 0) (lc := lc) (r := r) (S9.out.on h) hc8 (HL.out.on (below_step C9.out h)) (by omega) (by omega) hq hln)
      have law := PCheck.neg_law (l := l) (E := E) (a := ak) (by omega) hk0
      rw [← HF3.out] at law
      obtain ⟨k1, k2, h1, h2, h3, h4, h5, h6, h7⟩ := law
      have ek1 : ((E.length + 1 : Nat) : Int) = (E.length : Int) + 1 := by omega
      have ek2 : ((E.length + 2 : Nat) : Int) = (E.length : Int) + 2 := by omega
      rw [ek1] at h4 h5
      rw [ek2] at h7
      obtain ⟨⟨a1, p1, e1⟩, hG1⟩ : ∃ G, PCheck.kind (E ++ F) (E.length : Int) l = G := ⟨_, rfl⟩
      obtain ⟨⟨a2, p2, e2⟩, hG2⟩ : ∃ G, PCheck.kind (E ++ F) ((E.length : Int) + 1) l = G := ⟨_, rfl⟩
      rw [hG1] at h1 h2
      rw [hG2] at h4 h5
      have KQ1 := Lib.hid (fun wx h => KQ.out wx (E.length : Int) h)
      have KQ2 := Lib.hid (fun wx h => KQ.out wx ((E.length : Int) + 1) h)
      have KQ3 := Lib.hid (fun wx h => KQ.out wx ((E.length : Int) + 2) h)
      rw [hG1] at KQ1
      rw [hG2] at KQ2
      rw [h7] at KQ3
      obtain rfl : a1 = k1 := h1
      obtain rfl : a2 = k2 := h4
      have h2 : e1 = 0 ↔ PCheck.K E l ak = 1 ∨ PCheck.K E l ak = 3 := h2
      have h5 : e2 = 0 ↔ PCheck.K E l ak ≠ 4 := h5
      have hkk := HKK.out
      have h4k := PCheck.K_four (E := E) (l := l) ak
      rw [hkk] at hk0 h2 h3 h5 h6 h4k
      subst hEl
      go_upto_region 8 with fail
      obtain ⟨q0, q1⟩ := bx2 QB
      have hqs := QB.1
      have HQB := Lib.hid QB
      clear hw9 hw7 hv5 hG1 hG2 hkk HKK S8 own8 QB b8 b9 F7 O7 HXB5 KQ h7
      go_wp2_with fail
      refine (KQ1.out _ (Below.refl _ _)).mono ?_
      rintro _ wa ⟨rfl, ba⟩
      have Da := Lib.hid ba
      have QA := HQB.out.on ba
      obtain ⟨t0, t1⟩ := bx2 QA
      have hta := QA.1
      clear q0 q1 hqs ba QA KQ1
      go_wp2_with fail
      refine (KQ2.out _ Da.out).mono ?_
      rintro _ wb ⟨rfl, bb⟩
      have Db := Lib.hid (below_step Da.out bb)
      have QA := HQB.out.on Db.out
      obtain ⟨q0, q1⟩ := bx2 QA
      have hqs := QA.1
      clear t0 t1 hta bb QA KQ2 Da
      go_wp2_with fail
      refine (KQ3.out _ Db.out).mono ?_
      rintro _ wc ⟨rfl, bc⟩
      go_upto_region 11 with fail
      have Dc := Lib.hid (below_step C9.out (below_step Db.out bc))
      clear q0 q1 hqs bc KQ3 Db
      have CASE : (kk = 1 ∧ e1 = 0 ∧ a1 = 1 ∧ e2 = 0 ∧ a2 = 1) ∨ (kk = 2 ∧ e1 ≠ 0 ∧ e2 = 0 ∧ a2 = 2) ∨ (kk = 3 ∧ e1 = 0 ∧ a1 = 3 ∧ e2 = 0 ∧ a2 = 3) ∨ (kk = 4 ∧ e1 ≠ 0 ∧ e2 ≠ 0) := by
        rcases h4k with rfl | rfl | rfl | rfl | rfl
        · exact absurd rfl hk0
        · exact .inl ⟨rfl, h2.2 (.inl rfl), h3 (.inl rfl), h5.2 (by decide), h6 (by decide)⟩
        · exact .inr (.inl ⟨rfl, fun e => by have := h2.1 e; omega, h5.2 (by decide), h6 (by decide)⟩)
        · exact .inr (.inr (.inl ⟨rfl, h2.2 (.inr rfl), h3 (.inr rfl), h5.2 (by decide), h6 (by decide)⟩))
        · exact .inr (.inr (.inr ⟨rfl, fun e => by have := h2.1 e; omega, fun e => by have := h5.1 e; omega⟩))
      clear h2 h3 h5 h6 h4k hk0
      rcases CASE with ⟨rfl, rfl, rfl, rfl, rfl⟩ | ⟨rfl, n1, rfl, rfl⟩ | ⟨rfl, rfl, rfl, rfl, rfl⟩ | ⟨rfl, n1, n2⟩
      · go_wp2_with fail
        refine (hAw.out _ Dc.out).mono ?_
        rintro _ w5 ⟨rfl, b5⟩
        go_wp2_with fail
        exact b5
      · have n1' : ((e1 : Int) == 0) = false := by rw [beq_eq_false_iff_ne]; omega
        go_wp2_with fail
        refine (hAw.out _ Dc.out).mono ?_
        rintro _ w5 ⟨rfl, b5⟩
        go_wp2_with fail
        exact b5
      · go_wp2_with fail
        refine (hAw.out _ Dc.out).mono ?_
        rintro _ w5 ⟨rfl, b5⟩
        go_wp2_with fail
        exact b5
      · have n1' : ((e1 : Int) == 0) = false := by rw [beq_eq_false_iff_ne]; omega
        have n2' : ((e2 : Int) == 0) = false := by rw [beq_eq_false_iff_ne]; omega
        go_wp2_with fail
        refine (hAw.out _ Dc.out).mono ?_
        rintro _ w5 ⟨rfl, b5⟩
        go_wp2_with fail
        exact b5
    · have hz := PCheck.kind_zero he
      obtain ⟨⟨f1, f2, f3⟩, hF⟩ : ∃ F, PCheck.kind E (ak : Int) l = F := ⟨_, rfl⟩
      rw [hF] at KD he hz
      obtain rfl : f1 = 0 := hz
      have he1 : ((f3 : Int) == 0) = false := by
        rw [beq_eq_false_iff_ne]
        have : f3 ≠ 0 := he
        omega
      clear hF he hxn HB hb3
      go_wp2_with fail
      refine (KD.out).mono ?_
      rintro _ w4 ⟨rfl, b4⟩
      have C4 := Lib.hid (below_step C3.out b4)
      clear b4 KD C3 HXB3 z0 z1 hsz
      go_wp2_with fail
      refine (hAw.out _ C4.out).mono ?_
      rintro _ w5 ⟨rfl, b5⟩
      go_wp2_with fail
      exact b5
end Go.Proofs.YtkmehhhgdeiaeaaDoor
