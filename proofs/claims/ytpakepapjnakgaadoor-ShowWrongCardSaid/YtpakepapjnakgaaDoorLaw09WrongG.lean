/-
  ShowWrong: a program of which one number, one place, or one word is turned has no text, or one that is read to it.
-/
import Derived.Test.YtpakepapjnakgaaDoorLR
import Derived.Deep.RegionHeld3
import Derived.Test.YtpakepapjnakgaaDoorShowParsed2G
import Derived.Test.YtpakepapjnakgaaDoorShowWrongMathG
import Derived.Deep.DeepCutAuto
import Derived.OneCell

set_option linter.unusedVariables false
namespace Go.Proofs.YtpakepapjnakgaaDoor
open Go.RowKit
open PTree (R Ex Tr Rl Row)
open PCheck (Xp)

theorem keepP2 {w w' : World} {p0 p1 : Addr} {a b : Value} (hb : Below w.heap.size w w') (h : w.cell? p0 = some a ∧ w.cell? p1 = some b) : w'.cell? p0 = some a ∧ w'.cell? p1 = some b :=
  ⟨(hb.cell (World.block_lt_of_cell? w _ h.1)).trans h.1, (hb.cell (World.block_lt_of_cell? w _ h.2)).trans h.2⟩
theorem tree_xpTy : RecTy xpR 42 24 64 where
  info := ⟨.agg #[.string ⟨#[]⟩, .string ⟨#[]⟩, .int .i64 0, .int .i64 0, .int .i64 0, .int .i64 0], by kernel_rfl, by rfl⟩
  under := by kernel_rfl
  few := by decide
theorem box_kept {w w' : World} {H : Nat} {vs : List Value} (h : Box w H vs) (hk : w'.heap[H]? = w.heap[H]?) : Box w' H vs := by
  have hlt : H < w'.heap.size := by
    rcases Nat.lt_or_ge H w'.heap.size with g | g
    · exact g
    · rw [Array.getElem?_eq_none g, Array.getElem?_eq_getElem h.1] at hk; cases hk
  exact ⟨hlt, fun j v e => ⟨by rw [World.cell?_of_block (a := ⟨H, j, none⟩) hk]; exact h.c j e, by rw [World.frozen?_of_block (a := ⟨H, j, none⟩) hk]; exact h.f j e⟩, fun j e => by rw [World.cell?_of_block (a := ⟨H, j, none⟩) hk]; exact h.2.2 j e⟩
/-- A program of the call's own: its box, and its expressions in a row that may be written to. -/
structure Mine (w0 : World) (qb g c n : Nat) (u : Value) (E : List Xp) (w : World) : Prop where
  box : Box w qb [u, .slice (some ⟨g, 0, none⟩) n c]
  own : w.ownsRow w0.heap.size 42 6 (.slice (some ⟨g, 0, none⟩) n c) n (xpR.cells E)
  ne : g ≠ qb
  cap : n ≤ c
  new : w0.heap.size ≤ qb
  below : Below w0.heap.size w0 w
theorem own_some {w : World} {base e size n : Nat} {v : Value} {xs : List Value} (h : w.ownsRow base e size v n xs) (hn : n ≠ 0) : ∃ g c, v = .slice (some ⟨g, 0, none⟩) n c ∧ base ≤ g ∧ n ≤ c := by
  rcases h.2 with ⟨rfl, rfl⟩ | ⟨g, cap, cur, rfl, hg, _, h1, _⟩
  · exact absurd rfl hn
  · exact ⟨g, cap, rfl, hg, h1⟩
theorem mine_after {w0 wA w8 : World} {qb gb n : Nat} {v8 u : Value} {E : List Xp} (hY : Box wA qb [.slice none 0 0, .slice none 0 0]) (hG : wA.heap[qb]? = some (.cells #[.slice none 0 0, .slice none 0 0] 26 (0, 0))) (hq : w0.heap.size ≤ qb) (hb : Below w0.heap.size w0 wA)
    (own8 : w8.ownsRow w0.heap.size 42 6 v8 n (xpR.cells E)) (b8 : Below w0.heap.size wA.drew w8) (k8 : ∀ k, k < wA.drew.heap.size → (Value.slice (some ⟨gb, 0, none⟩) 0 0).ownBlock ≠ some k → w8.heap[k]? = wA.drew.heap[k]?) (hne : gb ≠ qb) (hn : n ≠ 0) :
    ∃ g8 c8, v8 = .slice (some ⟨g8, 0, none⟩) n c8 ∧ Box w8 qb [.slice none 0 0, .slice none 0 0] ∧ Below w0.heap.size w0 w8 ∧ Mine w0 qb g8 c8 n u E ((w8.setCell ⟨qb, 0, none⟩ u).setCell ⟨qb, 1, none⟩ (.slice (some ⟨g8, 0, none⟩) n c8)) := by
  obtain ⟨g8, c8, rfl, hg8, hc8⟩ := own_some own8 hn
  have hk8 : w8.heap[qb]? = wA.heap[qb]? := k8 qb hY.1 (fun c => hne (Option.some.inj c))
  have YB8 := box_kept hY hk8
  have ne8 : g8 ≠ qb := by
    rcases own8.2 with ⟨h, _⟩ | ⟨g', cap', cur', h, _, hh, _⟩
    · cases h
    · cases h
      intro e
      rw [e, hk8, hG] at hh
      cases hh
  obtain ⟨w9, hw9, Y9, ON9⟩ := store2 YB8 u (.slice (some ⟨g8, 0, none⟩) n c8)
  have bb := hb.drew.trans b8
  have b9 : Below w0.heap.size w0 w9 := ON9.below hq bb
  have hn8 : (Value.slice (some ⟨g8, 0, none⟩) n c8).ownBlock ≠ some qb := fun e => ne8 (Option.some.inj e)
  have own9 : w9.ownsRow w0.heap.size 42 6 (.slice (some ⟨g8, 0, none⟩) n c8) n (xpR.cells E) := by
    rw [← hw9]
    exact ownsRow_setCell_other (ownsRow_setCell_other own8 (a := ⟨qb, 0, none⟩) hn8 _) (a := ⟨qb, 1, none⟩) hn8 _
  refine ⟨g8, c8, rfl, YB8, bb, ?_⟩
  rw [hw9]
  exact ⟨Y9, own9, ne8, hc8, hq, b9⟩
theorem slx_unmap {α β : Type} {R : Rec α} {R' : Rec β} (g : α → β) (hk : R'.k = R.k) (hC : ∀ x, R'.C (g x) = R.C x) {w : World} {A : Option Addr} {n : Nat} {l : List α} (h : SlX R' w A n (l.map g)) : SlX R w A n l := by
  obtain ⟨h1, h2⟩ := h
  refine ⟨by rw [List.length_map] at h1; exact h1, ?_⟩
  rcases h2 with h2 | ⟨b, off, e, hc⟩
  · exact .inl h2
  · refine .inr ⟨b, off, e, fun i hi j v hv => ?_⟩
    rw [← hk]
    refine hc i (by rw [List.length_map]; exact hi) j v ?_
    rw [List.getElem_map, hC]
    exact hv
theorem only_drew {H : Nat} {w w' : World} (h : Only H w w') : Only H w w'.drew := ⟨h.size, h.cell, h.frozen, fun hB hb => (h.below hB hb).drew⟩
theorem slx_drew {w : World} {A : Option Addr} {n : Nat} {E : List Xp} (h : SlX xpR w A n E) : SlX xpR w.drew A n E := h.on ((Below.refl _ _).drew)
set_option maxHeartbeats 2000000 in
theorem slx_put {w : World} {g n j : Nat} {E : List Xp} (h : SlX xpR w (some ⟨g, 0, none⟩) n E) (hj : j < n) (y : Xp) :
    SlX xpR ((((((w.setCell ⟨g, j * 6, none⟩ (.string ⟨y.op.toArray⟩)).setCell ⟨g, j * 6 + 1, none⟩ (.string ⟨y.name.toArray⟩)).setCell ⟨g, j * 6 + 2, none⟩ (.int .i64 y.value)).setCell ⟨g, j * 6 + 3, none⟩ (.int .i64 y.a)).setCell ⟨g, j * 6 + 4, none⟩ (.int .i64 y.b)).setCell ⟨g, j * 6 + 5, none⟩ (.int .i64 y.c)) (some ⟨g, 0, none⟩) n (E.set j y) := by
  obtain ⟨h1, h2⟩ := h
  refine ⟨by rw [List.length_set]; exact h1, .inr ⟨g, 0, rfl, fun i hi q v e => ?_⟩⟩
  have hi2 : i < E.length := by rw [List.length_set] at hi; exact hi
  obtain ⟨b, off, e0, hc⟩ := h2.resolve_left (by omega)
  cases e0
  have hq : q < 6 := by have h := (List.getElem?_eq_some_iff.1 e).1; rw [xpR.len] at h; exact h
  have ne : ∀ (a b : Nat) (x : Value) (w' : World), a ≠ b → (w'.setCell ⟨g, a, none⟩ x).cell? ⟨g, b, none⟩ = w'.cell? ⟨g, b, none⟩ := fun a b x w' hab => World.cell?_setCell_other _ _ _ _ (by intro c; simp only [Addr.mk.injEq] at c; omega)
  rw [show (0 + i * xpR.k + q) = i * 6 + q by show 0 + i * 6 + q = _; omega]
  by_cases hij : i = j
  · subst hij
    rw [List.getElem_set_self] at e
    have old : ∀ q, q < 6 → ∃ z, w.cell? ⟨g, i * 6 + q, none⟩ = some z := fun q hq => by
      have hl : q < (xpR.C E[i]).length := by rw [xpR.len]; exact hq
      have h := hc i hi2 q _ (List.getElem?_eq_getElem hl)
      rw [show (0 + i * xpR.k + q) = i * 6 + q by show 0 + i * 6 + q = _; omega] at h
      exact ⟨_, h⟩
    match q, hq, e with
    | 0, _, e =>
      cases e
      obtain ⟨z, hz⟩ := old 0 (by omega)
      rw [ne _ _ _ _ (by omega), ne _ _ _ _ (by omega), ne _ _ _ _ (by omega), ne _ _ _ _ (by omega), ne _ _ _ _ (by omega)]
      exact World.cell?_setCell_same _ _ _ hz
    | 1, _, e =>
      cases e
      obtain ⟨z, hz⟩ := old 1 (by omega)
      rw [ne _ _ _ _ (by omega), ne _ _ _ _ (by omega), ne _ _ _ _ (by omega), ne _ _ _ _ (by omega)]
      exact World.cell?_setCell_same _ _ _ (by rw [ne _ _ _ _ (by omega)]; exact hz)
    | 2, _, e =>
      cases e
      obtain ⟨z, hz⟩ := old 2 (by omega)
      rw [ne _ _ _ _ (by omega), ne _ _ _ _ (by omega), ne _ _ _ _ (by omega)]
      exact World.cell?_setCell_same _ _ _ (by rw [ne _ _ _ _ (by omega), ne _ _ _ _ (by omega)]; exact hz)
    | 3, _, e =>
      cases e
      obtain ⟨z, hz⟩ := old 3 (by omega)
      rw [ne _ _ _ _ (by omega), ne _ _ _ _ (by omega)]
      exact World.cell?_setCell_same _ _ _ (by rw [ne _ _ _ _ (by omega), ne _ _ _ _ (by omega), ne _ _ _ _ (by omega)]; exact hz)
    | 4, _, e =>
      cases e
      obtain ⟨z, hz⟩ := old 4 (by omega)
      rw [ne _ _ _ _ (by omega)]
      exact World.cell?_setCell_same _ _ _ (by rw [ne _ _ _ _ (by omega), ne _ _ _ _ (by omega), ne _ _ _ _ (by omega), ne _ _ _ _ (by omega)]; exact hz)
    | 5, _, e =>
      cases e
      obtain ⟨z, hz⟩ := old 5 (by omega)
      exact World.cell?_setCell_same _ _ _ (by rw [ne _ _ _ _ (by omega), ne _ _ _ _ (by omega), ne _ _ _ _ (by omega), ne _ _ _ _ (by omega), ne _ _ _ _ (by omega)]; exact hz)
  · rw [List.getElem_set_ne (Ne.symm hij)] at e
    have h := hc i hi2 q v e
    rw [show (0 + i * xpR.k + q) = i * 6 + q by show 0 + i * 6 + q = _; omega] at h
    rw [ne _ _ _ _ (by omega), ne _ _ _ _ (by omega), ne _ _ _ _ (by omega), ne _ _ _ _ (by omega), ne _ _ _ _ (by omega), ne _ _ _ _ (by omega)]
    exact h
/-- Text of a program of which one expression is turned. -/
theorem twrong {s : List UInt8} {t : List PLex.Tok} {rs : List Rl} (h : PTree.parse s = some (.ok t rs)) (hs : s.length ≤ 300) {k : Nat} {x y : Xp} (hx : (xpX rs)[k]? = some x) (h0 : -9223372036854775808 ≤ y.value) (h1 : y.value ≤ 9223372036854775807) (hn : y.name.length ≤ x.name.length + 20)
    {w : World} {n c rn rc : Nat} {A RA : Option Addr} (hR : SlX rlR w RA rn (rwX rs)) (hE : SlX xpR w A n ((xpX rs).set k y)) (ht : Tab w) :
    Calls Tryd.prog 10 #[.agg #[.slice RA rn rc, .slice A n c]] w (TextAns (textOf ((xpX rs).set k y) (rwX rs)) w) := by
  have hf := PTree.parse_fewP h
  have g := PShow.got h
  have e1 : n = PTree.sizeOf rs := by rw [← xpX_len rs, ← List.length_set (i := k) (a := y)]; exact hE.1.symm
  have e2 : rn = rs.length := by rw [← rwX_len rs]; exact hR.1.symm
  refine ktext_any hR hE ht (by omega) (by omega) (fun z hz => ?_) (fun hi => ?_)
  · rcases List.mem_or_eq_of_mem_set hz with hz | rfl
    · exact read_vals g z hz
    · exact ⟨h0, h1⟩
  · have ho := of_decide_eq_true (show decide _ = true from hi)
    refine ⟨fun r hr => ?_, ?_⟩
    · have hr2 := (PShow.ord_all ho).2.2 r.2.2 (List.mem_map.2 ⟨r, hr, rfl⟩)
      have hl : ((xpX rs).set k y).length = PTree.sizeOf rs := by rw [List.length_set, xpX_len]
      have := PShow.ord_cnt ho (k := r.2.2.toNat) (by omega)
      omega
    · have := PShow.turned_len g hx h0 h1 hn rfl ho
      have e : (PShow.linesTx ((xpX rs).set k y) (rwX rs)).length ≤ 9 * s.length + 60 := this
      omega
/-- .. and what that is read to. -/
theorem twrong_back {E : List Xp} {RL : List Rw} {T : List UInt8} (h : textOf E RL = some T) : ∃ t rs, PTree.parse T = some (.ok t rs) ∧ rwX rs = RL ∧ xpX rs = E ∧ T = PShow.linesTx E RL ∧ inOrd E RL = true := by
  unfold textOf at h
  cases hi : inOrd E RL with
  | false => rw [hi] at h; cases h
  | true =>
    rw [hi] at h
    simp only [if_true] at h
    split at h
    · next t rs hp =>
      split at h
      · next hh =>
        cases h
        exact ⟨t, rs, hp, hh.1, hh.2, rfl, rfl⟩
      · cases h
    · cases h
set_option maxRecDepth 100000 in
set_option maxHeartbeats 12800000 in
theorem wrong9_walk (s : ByteArray) (i b : Int) (wd : ByteArray) (w : World) (ht : Tab w) (hs : s.size ≤ maxLen) (hi : (Lit.int .u16 i).wf = true) (hb : (Lit.int .i8 b).wf = true) (hwd : wd.size ≤ maxLen) :
    Calls Tryd.prog 4 #[.string s, .int .u16 i, .int .i8 b, .string wd] w (Yes w) := by
  obtain ⟨Q, hQ⟩ : ∃ Q, Yes w = Q := ⟨_, rfl⟩
  rw [hQ]
  have FIN : Hid (∀ (w' : World), Below w.heap.size w w' → Q (.returned (.bool true)) w') := Lib.hid (fun w' a => by rw [← hQ]; exact ⟨rfl, a⟩)
  have HT := Lib.hid ht
  unfold maxLen at hs hwd
  obtain ⟨ni, rfl⟩ : ∃ ni : Nat, i = ni := ⟨i.toNat, by have := u16_bounds hi; omega⟩
  have hni : ni ≤ 65535 := by have := u16_bounds hi; omega
  have hbb : -128 ≤ b ∧ b ≤ 127 := by simp [Lit.wf, IntKind.min, IntKind.max, IntKind.signed, IntKind.bits] at hb; omega
  clear hQ ht hi hb
  by_cases h6 : 300 < s.size
  · have hl : (300 : Int) < (s.size : Int) := by omega
    have AW := Lib.hid (aw9_yes w HT.out)
    go_enter Tryd.func4, Tryd.ntmps4
    go_wp2_with (go_at_call 8; refine AW.out.mono ?_)
    intro e1 w1 h1
    obtain ⟨rfl, b1⟩ := h1
    have B1 := Lib.hid b1
    clear b1 AW
    go_wp2_with fail
    exact FIN.out _ B1.out
  have hl : ¬ (300 : Int) < (s.size : Int) := by omega
  by_cases h7 : 20 < wd.size
  · have hl7 : (20 : Int) < (wd.size : Int) := by omega
    have AW := Lib.hid (aw9_yes w HT.out)
    go_enter Tryd.func4, Tryd.ntmps4
    go_wp2_with (go_at_call 8; refine AW.out.mono ?_)
    intro e1 w1 h1
    obtain ⟨rfl, b1⟩ := h1
    have B1 := Lib.hid b1
    clear b1 AW
    go_wp2_with fail
    exact FIN.out _ B1.out
  have hl7 : ¬ (20 : Int) < (wd.size : Int) := by omega
  cases hp : PTree.parse s.data.toList with
  | none =>
    have PA := Lib.hid (tparse_any s w (by omega))
    have HP := Lib.hid hp
    clear hp
    go_enter Tryd.func4, Tryd.ntmps4
    go_wp2_with (go_at_call 9; refine PA.out.mono ?_)
    intro e1 w1 h1
    obtain ⟨-, h1⟩ := h1
    rw [HP.out] at h1
    exact h1.elim
  | some r =>
    cases r with
    | bad k q =>
      have PA := Lib.hid (tparse_any s w (by omega))
      have HP := Lib.hid hp
      clear hp
      go_enter Tryd.func4, Tryd.ntmps4
      go_wp2_with (go_at_call 9; refine PA.out.mono ?_)
      intro e1 w1 h1
      obtain ⟨b1, h1⟩ := h1
      rw [HP.out] at h1
      obtain ⟨rfl, hk0⟩ := h1
      obtain ⟨w2, hw2, YB, b2⟩ : ∃ w2, w1.alloc (.cells #[.slice none 0 0, .slice none 0 0] 26) = w2 ∧ Box w2 w1.heap.size [.slice none 0 0, .slice none 0 0] ∧ Below w1.heap.size w1 w2 := ⟨_, rfl, Box.new _ _ [.slice none 0 0, .slice none 0 0], (Below.refl _ _).alloc (Nat.le_refl _) _⟩
      obtain ⟨w3, hw3, Y3, ON3⟩ := store2 YB (.slice none 0 0) (.slice none 0 0)
      have b3 := ON3.below (Nat.le_refl _) b2
      have B3 := Lib.hid (below_step b1 b3)
      have AW := Lib.hid (aw9_yes w3 (HT.out.on B3.out))
      obtain ⟨y0, y1⟩ := px2 YB
      obtain ⟨z0, z1⟩ := px2f YB
      have hs2 := YB.1
      obtain ⟨q0, q1⟩ := px2 Y3
      have hs3 := Y3.1
      have HW3 := Lib.hid hw3
      have gk : ((k : Int) == 0) = false := by rw [beq_eq_false_iff_ne]; omega
      clear YB Y3 ON3 b1 b2 b3 hw3 PA
      go_upto_region 4 with fail
      rw [HW3.out]
      clear HW3 hw2 y0 y1 z0 z1 hs2
      go_wp2_with (go_at_call 8; refine AW.out.mono ?_)
      intro e4 w4 h4
      obtain ⟨rfl, b4⟩ := h4
      have B4 := Lib.hid (below_step B3.out b4)
      clear b4 AW
      go_wp2_with fail
      exact FIN.out _ B4.out
    | ok t rs =>
      obtain ⟨rl, hrl⟩ : ∃ rl, rs.length = rl := ⟨_, rfl⟩
      obtain ⟨sz, hsz⟩ : ∃ sz, PTree.sizeOf rs = sz := ⟨_, rfl⟩
      have hsl : s.data.toList.length ≤ 300 := by rw [Array.length_toList]; show s.size ≤ 300; omega
      have PA := Lib.hid (tparse_rows hp (by omega) w hrl hsz)
      have hfew := PTree.parse_fewP hp
      have hsz300 : sz ≤ 300 := by omega
      have HP := Lib.hid hp; have HRL := Lib.hid hrl; have HSZ := Lib.hid hsz; have HSL := Lib.hid hsl
      clear hp hrl hsz hsl hfew
      by_cases hz0 : sz = 0
      · subst hz0
        go_enter Tryd.func4, Tryd.ntmps4
        go_wp2_with (go_at_call 9; refine PA.out.mono ?_)
        intro e1 w1 h1
        obtain ⟨A1, ca1, B1, cb1, rfl, s1, s2, b1⟩ := h1
        obtain ⟨w2, hw2, YB, b2⟩ : ∃ w2, w1.alloc (.cells #[.slice none 0 0, .slice none 0 0] 26) = w2 ∧ Box w2 w1.heap.size [.slice none 0 0, .slice none 0 0] ∧ Below w1.heap.size w1 w2 := ⟨_, rfl, Box.new _ _ [.slice none 0 0, .slice none 0 0], (Below.refl _ _).alloc (Nat.le_refl _) _⟩
        obtain ⟨w3, hw3, Y3, ON3⟩ := store2 YB (.slice A1 rl ca1) (.slice B1 0 cb1)
        have b3 := ON3.below (Nat.le_refl _) b2
        have B3 := Lib.hid (below_step b1 b3)
        have AW := Lib.hid (aw9_yes w3 (HT.out.on B3.out))
        obtain ⟨y0, y1⟩ := px2 YB
        obtain ⟨z0, z1⟩ := px2f YB
        have hs2 := YB.1
        obtain ⟨q0, q1⟩ := px2 Y3
        have hs3 := Y3.1
        have HW3 := Lib.hid hw3
        clear YB Y3 ON3 b1 b2 b3 hw3 PA s1 s2
        go_upto_region 4 with fail
        rw [HW3.out]
        clear HW3 hw2 y0 y1 z0 z1 hs2
        go_wp2_with (go_at_call 8; refine AW.out.mono ?_)
        intro e4 w4 h4
        obtain ⟨rfl, b4⟩ := h4
        have B4 := Lib.hid (below_step B3.out b4)
        clear b4 AW
        go_wp2_with fail
        exact FIN.out _ B4.out
      · have hmod : ni % sz < sz := Nat.mod_lt _ (by omega)
        obtain ⟨j, hj⟩ : ∃ j, ni % sz = j := ⟨_, rfl⟩
        rw [hj] at hmod
        have hjI : (ni : Int) % (sz : Int) = (j : Int) := by rw [← hj]; exact (Int.natCast_emod ni sz).symm
        have hjT : Int.tmod (ni : Int) (sz : Int) = (j : Int) := by rw [Int.tmod_eq_emod_of_nonneg (by omega)]; exact hjI
        have hgz : ((sz : Int) == 0) = false := by rw [beq_eq_false_iff_ne]; omega
        have gz : ¬ (sz : Int) = 0 := by omega
        have hwr : IntKind.i64.wrap (ni : Int) = (ni : Int) := by rw [IntKind.wrap_i64]; omega
        have hjsz : (j : Int) < (sz : Int) := by omega
        clear hj hjI
        go_enter Tryd.func4, Tryd.ntmps4
        go_wp2_with (go_at_call 9; refine PA.out.mono ?_)
        intro e1 w1 h1
        obtain ⟨A1, ca1, B1, cb1, rfl, s1, s2, b1⟩ := h1
        obtain ⟨w2, hw2, YB, b2⟩ : ∃ w2, w1.alloc (.cells #[.slice none 0 0, .slice none 0 0] 26) = w2 ∧ Box w2 w1.heap.size [.slice none 0 0, .slice none 0 0] ∧ Below w1.heap.size w1 w2 := ⟨_, rfl, Box.new _ _ [.slice none 0 0, .slice none 0 0], (Below.refl _ _).alloc (Nat.le_refl _) _⟩
        obtain ⟨w3, hw3, Y3, ON3⟩ := store2 YB (.slice A1 rl ca1) (.slice B1 sz cb1)
        have b3 := ON3.below (Nat.le_refl _) b2
        have B3 := Lib.hid (below_step b1 b3)
        have S1 := Lib.hid (slx_rw (s1.on b3)); have S2 := Lib.hid (slx_xpX (s2.on b3))
        have HY3 := Lib.hid Y3
        obtain ⟨y0, y1⟩ := px2 YB
        obtain ⟨z0, z1⟩ := px2f YB
        have hs2 := YB.1
        obtain ⟨q0, q1⟩ := px2 Y3
        have hs3 := Y3.1
        have HW3 := Lib.hid hw3
        clear YB Y3 ON3 b1 b2 b3 hw3 PA s1 s2
        go_upto_region 4 with fail
        rw [HW3.out]
        clear HW3 hw2 y0 y1 z0 z1 hs2
        go_upto_region 6 with fail
        have Z3 : w3.drew.cell? ⟨w1.heap.size, 0, none⟩ = some (.slice A1 rl ca1) ∧ w3.drew.cell? ⟨w1.heap.size, 1, none⟩ = some (.slice B1 sz cb1) := ⟨q0, q1⟩
        have bd4 : Below w3.heap.size w3 (w3.alloc (.cells #[] 42)).drew := ((Below.refl _ _).alloc (Nat.le_refl _) _).drew
        have Z4 : (w3.alloc (.cells #[] 42)).drew.cell? ⟨w1.heap.size, 0, none⟩ = some (.slice A1 rl ca1) ∧ (w3.alloc (.cells #[] 42)).drew.cell? ⟨w1.heap.size, 1, none⟩ = some (.slice B1 sz cb1) := keepP2 bd4 ⟨q0, q1⟩
        have O4 : (w3.alloc (.cells #[] 42)).drew.ownsRow w3.heap.size 42 6 (.slice (some ⟨w3.heap.size, 0, none⟩) 0 0) 0 (xpR.cells []) := own_built xpR w3 42 [] (Nat.le_refl _) (by decide)
        have S24 := S2.out.on bd4
        obtain ⟨bb, bo, rfl, -⟩ := S24.at (i := 0) (by omega)
        have hs4 : w3.heap.size ≤ (w3.alloc (.cells #[] 42)).drew.heap.size := bd4.size
        have HO4 := Lib.hid O4; have HS24 := Lib.hid S24; have HS4 := Lib.hid hs4; have HBD4 := Lib.hid bd4
        have hz9 : 0 + sz ≤ 100000 := by omega
        have HZ9 := Lib.hid hz9
        have KP := Lib.hid (fun (wa wb : World) (h : Below wa.heap.size wa wb) (z : wa.cell? ⟨w1.heap.size, 0, none⟩ = some (.slice A1 rl ca1) ∧ wa.cell? ⟨w1.heap.size, 1, none⟩ = some (.slice (some ⟨bb, bo, none⟩) sz cb1)) => keepP2 h z)
        have KQ : Hid (∀ wa : World, Below w3.heap.size w3 wa → wa.cell? ⟨w1.heap.size, 0, none⟩ = some (.slice A1 rl ca1) ∧ wa.cell? ⟨w1.heap.size, 1, none⟩ = some (.slice (some ⟨bb, bo, none⟩) sz cb1)) := Lib.hid (fun wa h => keepP2 h ⟨q0, q1⟩)
        clear O4 S24 hs4 bd4 hz9
        obtain ⟨wA, hwA, YA0, YA, bA, hsA⟩ := enter2 w3 42 26 [] [.slice none 0 0, .slice none 0 0]
        have hGA : wA.heap[w3.heap.size + 1]? = some (.cells #[.slice none 0 0, .slice none 0 0] 26 (0, 0)) := by
          rw [← hwA]
          have := heap_alloc_new (w3.alloc (.cells #[] 42)) (.cells #[.slice none 0 0, .slice none 0 0] 26)
          rw [show (w3.alloc (.cells #[] 42)).heap.size = w3.heap.size + 1 by simp] at this
          exact this
        have OA : wA.drew.ownsRow w3.heap.size 42 6 (.slice (some ⟨w3.heap.size, 0, none⟩) 0 0) 0 (xpR.cells []) := by
          rw [← hwA]
          exact (own_built xpR w3 42 [] (Nat.le_refl _) (by decide)).alloc _
        have HYA := Lib.hid YA; have HBA := Lib.hid bA; have HSA := Lib.hid hsA; have HGA := Lib.hid hGA; have HOA := Lib.hid OA
        have HS2A := Lib.hid (S2.out.on bA.drew)
        have Z9 := KQ.out wA.drew bA.drew
        have HWA := Lib.hid hwA
        obtain ⟨wB, hwB, YB1, YB0, bB, hsB⟩ := enter2 w3 26 42 [.slice none 0 0, .slice none 0 0] []
        have hGB : wB.heap[w3.heap.size]? = some (.cells #[.slice none 0 0, .slice none 0 0] 26 (0, 0)) := by
          rw [← hwB, heap_alloc_old _ _ (by simp)]
          exact heap_alloc_new w3 _
        have OB : wB.drew.ownsRow w3.heap.size 42 6 (.slice (some ⟨w3.heap.size + 1, 0, none⟩) 0 0) 0 (xpR.cells []) := by
          rw [← hwB]
          have h := own_built xpR (w3.alloc (.cells #[.slice none 0 0, .slice none 0 0] 26)) 42 [] (base := w3.heap.size) (by simp) (by decide)
          rw [show (w3.alloc (.cells #[.slice none 0 0, .slice none 0 0] 26)).heap.size = w3.heap.size + 1 by simp] at h
          exact h
        have HYB := Lib.hid YB1; have HBB := Lib.hid bB; have HGB := Lib.hid hGB; have HOB := Lib.hid OB
        have HS2B := Lib.hid (S2.out.on bB.drew)
        have ZF := KQ.out wB.drew bB.drew
        have HWB := Lib.hid hwB
        have bP : Below w3.heap.size w3 (w3.alloc (.cells #[.slice none 0 0, .slice none 0 0] 26)) := (Below.refl _ _).alloc (Nat.le_refl _) _
        have ZG := KQ.out _ bP.drew
        clear YA0 YA bA hsA hGA OA YB1 YB0 bB hsB hGB OB bP
        go_cut [12] (fun v wx => ∃ qb g5 c5 : Nat, v = .pointer (some ⟨qb, 0, none⟩) ∧ Hid (Mine w3 qb g5 c5 sz (.slice A1 rl ca1) (xpX rs) wx))
        case first =>
          clear hwA hwB
          go_region_held3 (fun w' => w'.cell? ⟨w1.heap.size, 0, none⟩ = some (.slice A1 rl ca1) ∧ w'.cell? ⟨w1.heap.size, 1, none⟩ = some (.slice (some ⟨bb, bo, none⟩) sz cb1))
            (first
              | with_reducible exact Z3
              | with_reducible exact Z4
              | with_reducible exact Z5
              | with_reducible exact Z6
              | with_reducible exact Z7
              | with_reducible exact ZB
              | with_reducible exact ZC
              | with_reducible exact ZD
              | with_reducible exact ZE
              | with_reducible exact ZF
              | with_reducible exact ZG
              | (rw [← HWA.out] at Z9; with_reducible exact Z9)
              | (rw [← HWB.out] at ZF; with_reducible exact ZF))
            (first
              | with_reducible
                  refine in_w (w3.alloc (.cells #[] 42)).drew ?_
                refine step_append_kept tree_xpTy _ rfl _ _ rfl w3.heap.size _ 0 [] rfl HO4.out ⟨bb, bo, none⟩ sz cb1 (xpX rs) rfl HS24.out HZ9.out HS4.out ?_
                intro v5 w5 own5 b5 k5
                have Z5 := KQ.out w5 (HBD4.out.trans b5)
                rw [Nat.zero_add] at own5
                obtain ⟨g5, c5, rfl, hg5, hc5⟩ := own_some own5 hz0
                obtain ⟨w6, hw6, YB, b6⟩ : ∃ w6, w5.alloc (.cells #[.slice none 0 0, .slice none 0 0] 26) = w6 ∧ Box w6 w5.heap.size [.slice none 0 0, .slice none 0 0] ∧ Below w5.heap.size w5 w6 := ⟨_, rfl, Box.new _ _ [.slice none 0 0, .slice none 0 0], (Below.refl _ _).alloc (Nat.le_refl _) _⟩
                obtain ⟨w7, hw7, Y7, ON7⟩ := store2 YB (.slice A1 rl ca1) (.slice (some ⟨g5, 0, none⟩) sz c5)
                have b7 := ON7.below (Nat.le_refl _) b6
                have Z6 := KP.out w5 w6 b6 Z5
                have Z7 := KP.out w5 w7 b7 Z5
                rw [← hw7] at Z7
                obtain ⟨y0, y1⟩ := px2 YB
                obtain ⟨z0, z1⟩ := px2f YB
                have hs6 := YB.1
                have MI : Mine w3 w5.heap.size g5 c5 sz (.slice A1 rl ca1) (xpX rs) w7 := ⟨Y7, own_kept own5 b7, by have := (own5.lt g5 rfl).2; omega, hc5, by have := b5.size; have := HS4.out; omega, (HBD4.out.trans b5).trans (b7.mono (by have := b5.size; have := HS4.out; omega))⟩
                rw [← hw7] at MI
                have HMI := Lib.hid MI
                clear own5 b5 k5 YB b6 hw7 Y7 ON7 b7 MI
              | with_reducible
                  refine in_w ((w3.alloc (.cells #[] 42)).alloc (.cells #[.slice none 0 0, .slice none 0 0] 26)).drew ?_
                have E9 : ((w3.alloc (.cells #[] 42)).alloc (.cells #[.slice none 0 0, .slice none 0 0] 26)) = wA := HWA.out
                rw [E9]
                refine step_append_kept tree_xpTy _ rfl _ _ rfl w3.heap.size _ 0 [] rfl HOA.out ⟨bb, bo, none⟩ sz cb1 (xpX rs) rfl HS2A.out HZ9.out HBA.out.size ?_
                intro v8 w8 own8 b8 k8
                have ZB := KQ.out w8 (HBA.out.drew.trans b8)
                rw [Nat.zero_add] at own8
                obtain ⟨g8, c8, rfl, YB8, bb8, MI2⟩ := mine_after (u := .slice A1 rl ca1) HYA.out HGA.out (Nat.le_succ _) HBA.out own8 b8 k8 (Nat.ne_of_lt (Nat.lt_succ_self _)) hz0
                have ZC := KQ.out _ MI2.below
                obtain ⟨y0, y1⟩ := px2 YB8
                obtain ⟨z0, z1⟩ := px2f YB8
                have hs8 := YB8.1
                have HMI2 := Lib.hid MI2
                clear own8 b8 k8 YB8 bb8 MI2 E9
              | with_reducible
                  refine in_w ((w3.alloc (.cells #[.slice none 0 0, .slice none 0 0] 26)).alloc (.cells #[] 42)).drew ?_
                have E9 : ((w3.alloc (.cells #[.slice none 0 0, .slice none 0 0] 26)).alloc (.cells #[] 42)) = wB := HWB.out
                rw [E9]
                refine step_append_kept tree_xpTy _ rfl _ _ rfl w3.heap.size _ 0 [] rfl HOB.out ⟨bb, bo, none⟩ sz cb1 (xpX rs) rfl HS2B.out HZ9.out HBB.out.size ?_
                intro v8 w8 own8 b8 k8
                have ZD := KQ.out w8 (HBB.out.drew.trans b8)
                rw [Nat.zero_add] at own8
                obtain ⟨g8, c8, rfl, YB8, bb8, MI2⟩ := mine_after (u := .slice A1 rl ca1) HYB.out HGB.out (Nat.le_refl _) HBB.out own8 b8 k8 (Nat.ne_of_gt (Nat.lt_succ_self _)) hz0
                have ZE := KQ.out _ MI2.below
                obtain ⟨y0, y1⟩ := px2 YB8
                obtain ⟨z0, z1⟩ := px2f YB8
                have hs8 := YB8.1
                have HMI3 := Lib.hid MI2
                clear own8 b8 k8 YB8 bb8 MI2 E9
              )
          · go_wp2_with fail
            go_meet
            exact ⟨_, _, _, rfl, HMI⟩
          · go_wp2_with fail
            go_meet
            exact ⟨_, _, _, rfl, HMI2⟩
          · go_wp2_with fail
            go_meet
            exact ⟨_, _, _, rfl, HMI3⟩
        case rest =>
          obtain ⟨qb, g5, c5, rfl, HM⟩ := hcut
          obtain ⟨wo, hwo⟩ : ∃ wo, wo = wc := ⟨_, rfl⟩
          subst hwo
          have hjE : j < (xpX rs).length := by rw [xpX_len, HSZ.out]; exact hmod
          obtain ⟨x, hx⟩ : ∃ x, (xpX rs)[j] = x := ⟨_, rfl⟩
          have hx1 : (xpX rs)[j]? = some x := by rw [List.getElem?_eq_getElem hjE, hx]
          have hgc : ∀ i u, (xpC x)[i]? = some u → wo.cell? ⟨g5, j * 6 + i, none⟩ = some u := by
            intro i u hu
            have h := HM.out.own.cells (g := g5) rfl (j * 6 + i) u (xpR.cells_get _ j hjE i u (by rw [hx]; exact hu))
            rw [addr_add] at h
            exact h
          have hgf : ∀ i, wo.frozen? ⟨g5, i, none⟩ = false := fun i => HM.out.own.frozenAt i
          obtain ⟨op, nm, vl, ya, yb, yc⟩ := x
          have l0 : wo.cell? ⟨g5, j * 6, none⟩ = some (.string ⟨op.toArray⟩) := hgc 0 _ rfl
          have l1 : wo.cell? ⟨g5, j * 6 + 1, none⟩ = some (.string ⟨nm.toArray⟩) := hgc 1 _ rfl
          have l2 : wo.cell? ⟨g5, j * 6 + 2, none⟩ = some (.int .i64 vl) := hgc 2 _ rfl
          have l3 : wo.cell? ⟨g5, j * 6 + 3, none⟩ = some (.int .i64 ya) := hgc 3 _ rfl
          have l4 : wo.cell? ⟨g5, j * 6 + 4, none⟩ = some (.int .i64 yb) := hgc 4 _ rfl
          have l5 : wo.cell? ⟨g5, j * 6 + 5, none⟩ = some (.int .i64 yc) := hgc 5 _ rfl
          obtain ⟨p0, p1⟩ := px2 HM.out.box
          have hsp := HM.out.box.1
          have hsg := (HM.out.own.lt g5 rfl).2
          obtain ⟨w10, hw10, X10, b10⟩ : ∃ w10, (wo.alloc (.cells #[.string ⟨op.toArray⟩, .string ⟨nm.toArray⟩, .int .i64 vl, .int .i64 ya, .int .i64 yb, .int .i64 yc] 42)).drew = w10 ∧ Box w10 wo.heap.size [.string ⟨op.toArray⟩, .string ⟨nm.toArray⟩, .int .i64 vl, .int .i64 ya, .int .i64 yb, .int .i64 yc] ∧ Below wo.heap.size wo w10 := ⟨_, rfl, Box.new wo _ [.string ⟨op.toArray⟩, .string ⟨nm.toArray⟩, .int .i64 vl, .int .i64 ya, .int .i64 yb, .int .i64 yc], ((Below.refl _ _).alloc (Nat.le_refl _) _).drew⟩
          have HX10 := Lib.hid X10; have HB10 := Lib.hid b10; have HX1 := Lib.hid hx1; have HW10 := Lib.hid hw10
          clear hx hx1 hgc hgf hjE X10 b10 hw10
          go_upto_region 7 with fail
          go_region
          rw [HW10.out]
          clear l0 l1 l2 l3 l4 l5 p0 p1 hsp hsg HW10
          obtain ⟨u0, u1, u2, u3, u4, u5⟩ := box6 HX10.out
          obtain ⟨f0, f1, f2, f3, f4, f5⟩ := box6f HX10.out
          have hs10 := HX10.out.1
          go_upto_block 0 with fail
          obtain ⟨d, hd6, hd⟩ : ∃ d : Nat, d < 6 ∧ (ni : Int) / 256 % 6 = (d : Int) := ⟨ni / 256 % 6, Nat.mod_lt _ (by decide), by omega⟩
          rw [hd]
          clear hd
          have hvl := read_vals (PShow.got HP.out) ⟨op, nm, vl, ya, yb, yc⟩ (List.mem_iff_getElem?.2 ⟨j, HX1.out⟩)
          simp only at hvl
          have HVL := Lib.hid hvl
          have ewd : (⟨wd.data.toList.toArray⟩ : ByteArray) = wd := by cases wd; simp
          have lwd : wd.data.toList.length ≤ 20 := by rw [Array.length_toList]; show wd.size ≤ 20; omega
          have HEW := Lib.hid ewd; have HLW := Lib.hid lwd
          clear hvl ewd lwd
          go_cut [] (fun wx => Hid (∃ y : Xp, Box wx wo.heap.size (xpC y) ∧ -9223372036854775808 ≤ y.value ∧ y.value ≤ 9223372036854775807 ∧ y.name.length ≤ nm.length + 20 ∧ Below wo.heap.size wo wx))
          case first =>
            have hb1 := hbb.1
            have hb2 := hbb.2
            match d, hd6 with
            | 0, _ =>
              go_wp2_with fail
              go_meet
              exact Lib.hid ⟨⟨op, nm, vl, _, yb, yc⟩, HX10.out.set 3 (by simp) _, HVL.out.1, HVL.out.2, Nat.le_add_right _ _, HB10.out.setCell (Nat.le_refl _) _⟩
            | 1, _ =>
              go_wp2_with fail
              go_meet
              exact Lib.hid ⟨⟨op, nm, vl, ya, _, yc⟩, HX10.out.set 4 (by simp) _, HVL.out.1, HVL.out.2, Nat.le_add_right _ _, HB10.out.setCell (Nat.le_refl _) _⟩
            | 2, _ =>
              go_wp2_with fail
              go_meet
              exact Lib.hid ⟨⟨op, nm, vl, ya, yb, _⟩, HX10.out.set 5 (by simp) _, HVL.out.1, HVL.out.2, Nat.le_add_right _ _, HB10.out.setCell (Nat.le_refl _) _⟩
            | 3, _ =>
              go_wp2_with fail
              go_meet
              exact Lib.hid ⟨⟨op, nm, wrap64 (vl + b), ya, yb, yc⟩, HX10.out.set 2 (by simp) _, by show _ ≤ wrap64 (vl + b); unfold wrap64; omega, by show wrap64 (vl + b) ≤ _; unfold wrap64; omega, Nat.le_add_right _ _, HB10.out.setCell (Nat.le_refl _) _⟩
            | 4, _ =>
              go_wp2_with fail
              go_meet
              exact Lib.hid ⟨⟨op, wd.data.toList, vl, ya, yb, yc⟩, by unfold xpC; simp only; exact HX10.out.set 1 (by simp) _, HVL.out.1, HVL.out.2, Nat.le_trans HLW.out (Nat.le_add_left _ _), HB10.out.setCell (Nat.le_refl _) _⟩
            | 5, _ =>
              go_wp2_with fail
              go_meet
              exact Lib.hid ⟨⟨wd.data.toList, nm, vl, ya, yb, yc⟩, by unfold xpC; simp only; exact HX10.out.set 0 (by simp) _, HVL.out.1, HVL.out.2, Nat.le_add_right _ _, HB10.out.setCell (Nat.le_refl _) _⟩
            | d + 6, h => exact absurd h (by omega)
          case rest =>
            obtain ⟨y, Yb, hv0, hv1, hyn, by'⟩ := hcut.out
            clear hcut HX10 u0 u1 u2 u3 u4 u5 f0 f1 f2 f3 f4 f5 hs10 HB10 HVL HEW HLW
            have hjE : j < (xpX rs).length := by rw [xpX_len, HSZ.out]; exact hmod
            have own2 := own_kept HM.out.own by'
            have hgc : ∀ i u, (xpC ⟨op, nm, vl, ya, yb, yc⟩)[i]? = some u → wc.cell? ⟨g5, j * 6 + i, none⟩ = some u := by
              intro i u hu
              have hx := (List.getElem?_eq_some_iff.1 HX1.out).2
              have h := own2.cells (g := g5) rfl (j * 6 + i) u (xpR.cells_get _ j hjE i u (by rw [hx]; exact hu))
              rw [addr_add] at h
              exact h
            have l0 : wc.cell? ⟨g5, j * 6, none⟩ = some (.string ⟨op.toArray⟩) := hgc 0 _ rfl
            have l1 : wc.cell? ⟨g5, j * 6 + 1, none⟩ = some (.string ⟨nm.toArray⟩) := hgc 1 _ rfl
            have l2 : wc.cell? ⟨g5, j * 6 + 2, none⟩ = some (.int .i64 vl) := hgc 2 _ rfl
            have l3 : wc.cell? ⟨g5, j * 6 + 3, none⟩ = some (.int .i64 ya) := hgc 3 _ rfl
            have l4 : wc.cell? ⟨g5, j * 6 + 4, none⟩ = some (.int .i64 yb) := hgc 4 _ rfl
            have l5 : wc.cell? ⟨g5, j * 6 + 5, none⟩ = some (.int .i64 yc) := hgc 5 _ rfl
            have k0 : wc.frozen? ⟨g5, j * 6, none⟩ = false := own2.frozenAt _
            have k1 : wc.frozen? ⟨g5, j * 6 + 1, none⟩ = false := own2.frozenAt _
            have k2 : wc.frozen? ⟨g5, j * 6 + 2, none⟩ = false := own2.frozenAt _
            have k3 : wc.frozen? ⟨g5, j * 6 + 3, none⟩ = false := own2.frozenAt _
            have k4 : wc.frozen? ⟨g5, j * 6 + 4, none⟩ = false := own2.frozenAt _
            have k5 : wc.frozen? ⟨g5, j * 6 + 5, none⟩ = false := own2.frozenAt _
            obtain ⟨p0, p1⟩ := px2 (HM.out.box.on by')
            have hsp := (HM.out.box.on by').1
            have hsg := (own2.lt g5 rfl).2
            obtain ⟨oq, nq, vq, aq, bq, cq⟩ := y
            simp only [xpC] at Yb
            obtain ⟨u0, u1, u2, u3, u4, u5⟩ := box6 Yb
            have hsb := Yb.1
            have HOWN := Lib.hid own2; have HYV := Lib.hid (And.intro hv0 (And.intro hv1 hyn)); have HBY := Lib.hid by'; have HJE := Lib.hid hjE
            clear hgc own2 hv0 hv1 hyn by' Yb hjE
            simp only at HYV
            go_upto_region 20 with fail
            go_region
            obtain ⟨Y, hY⟩ : ∃ Y : Xp, (⟨oq, nq, vq, aq, bq, cq⟩ : Xp) = Y := ⟨_, rfl⟩
            obtain ⟨w20, hw20⟩ : ∃ w20, ((((((wc.setCell ⟨g5, j * 6, none⟩ (.string ⟨oq.toArray⟩)).setCell ⟨g5, j * 6 + 1, none⟩ (.string ⟨nq.toArray⟩)).setCell ⟨g5, j * 6 + 2, none⟩ (.int .i64 vq)).setCell ⟨g5, j * 6 + 3, none⟩ (.int .i64 aq)).setCell ⟨g5, j * 6 + 4, none⟩ (.int .i64 bq)).setCell ⟨g5, j * 6 + 5, none⟩ (.int .i64 cq)).drew = w20 := ⟨_, rfl⟩
            have on20 : Only g5 wc w20 := by
              rw [← hw20]
              have o := (((((((Only.refl g5 wc).set (j * 6) (.string ⟨oq.toArray⟩)).set (j * 6 + 1) (.string ⟨nq.toArray⟩)).set (j * 6 + 2) (.int .i64 vq)).set (j * 6 + 3) (.int .i64 aq)).set (j * 6 + 4) (.int .i64 bq)).set (j * 6 + 5) (.int .i64 cq))
              exact only_drew o
            have S20 : SlX xpR w20 (some ⟨g5, 0, none⟩) sz ((xpX rs).set j Y) := by
              obtain ⟨A, c, hv, -, -, sl⟩ := slr_of_own HOWN.out (by rw [xpX_len, HSZ.out])
              cases hv
              have h := slx_put sl hmod ⟨oq, nq, vq, aq, bq, cq⟩
              dsimp only at h
              have h2 := slx_drew h
              rw [hY] at h2
              rw [← hw20]
              exact h2
            rw [hw20]
            clear l0 l1 l2 l3 l4 l5 k0 k1 k2 k3 k4 k5 p0 p1 hsp hsg u0 u1 u2 u3 u4 u5 hsb hw20
            have hYv := HYV.out
            have B20 : Below w3.heap.size w3 w20 := on20.below (HM.out.own.lt g5 rfl).1 (HM.out.below.trans (HBY.out.mono HM.out.below.size))
            have R20 := S1.out.on B20
            have T20 := HT.out.on (below_step B3.out B20)
            have QB := (HM.out.box.on HBY.out).only on20 (Ne.symm HM.out.ne)
            have TX := twrong HP.out HSL.out (rc := ca1) (c := c5) (y := Y) HX1.out (by rw [← hY]; exact hYv.1) (by rw [← hY]; exact hYv.2.1) (by rw [← hY]; exact hYv.2.2) R20 S20 T20
            have HTX := Lib.hid TX; have HB20 := Lib.hid (below_step B3.out B20); have HT20 := Lib.hid T20; have HQB := Lib.hid QB; have HR20 := Lib.hid R20; have HS20 := Lib.hid S20
            have hY0 : -9223372036854775808 ≤ Y.value := by rw [← hY]; exact hYv.1
            have hY1 : Y.value ≤ 9223372036854775807 := by rw [← hY]; exact hYv.2.1
            have hY2 : Y.name.length ≤ nm.length + 20 := by rw [← hY]; exact hYv.2.2
            have HTL : Hid (∀ T, textOf ((xpX rs).set j Y) (rwX rs) = some T → T.length ≤ 4000) := Lib.hid (fun T hT => by
              obtain ⟨_, _, _, _, _, eT, hio⟩ := twrong_back hT
              have h := PShow.turned_len (PShow.got HP.out) HX1.out hY0 hY1 hY2 rfl (of_decide_eq_true (show decide _ = true from hio))
              have h' : (PShow.linesTx ((xpX rs).set j Y) (rwX rs)).length ≤ 9 * s.data.toList.length + 60 := h
              have := HSL.out
              rw [eT]; omega)
            obtain ⟨q0, q1⟩ := px2 QB
            have hsq := QB.1
            clear hY hYv on20 S20 B20 R20 T20 QB TX hY0 hY1 hY2 HM HYV HBY HOWN HX1
            go_wp2_with (go_at_call 10; refine HTX.out.mono ?_)
            intro e21 w21 h21
            obtain ⟨h21, b21⟩ := h21
            have B21 := Lib.hid (below_step HB20.out b21)
            have HT21 := Lib.hid (HT20.out.on b21)
            have HQ21 := Lib.hid (HQB.out.on b21); have HR21 := Lib.hid (HR20.out.on b21); have HS21 := Lib.hid (HS20.out.on b21)
            clear b21 q0 q1 hsq HTX HQB HR20 HS20 HT20
            cases htx : textOf ((xpX rs).set j Y) (rwX rs) with
            | none =>
              rw [htx] at h21
              subst h21
              have AW := Lib.hid (aw9_yes w21 HT21.out)
              clear htx
              go_wp2_with (go_at_call 8; refine AW.out.mono ?_)
              intro e22 w22 h22
              obtain ⟨rfl, b22⟩ := h22
              have B22 := Lib.hid (below_step B21.out b22)
              clear b22 AW
              go_wp2_with fail
              exact FIN.out _ B22.out
            | some T =>
              rw [htx] at h21
              subst h21
              have hTl := HTL.out T htx
              obtain ⟨t2, rs2, hp2, er, ex, -, -⟩ := twrong_back htx
              have hl2 : rs2.length = rl := by rw [← rwX_len, er, rwX_len, HRL.out]
              have hz2 : PTree.sizeOf rs2 = sz := by rw [← xpX_len, ex, List.length_set, xpX_len, HSZ.out]
              have PB := Lib.hid (tparse_rows (s := ⟨T.toArray⟩) hp2 (by show T.toArray.size ≤ 4000; simpa using hTl) w21 hl2 hz2)
              have HR22 : Hid (SlX rowR w21 A1 rl (PTree.rowsOf 0 rs2)) := Lib.hid (by
                have h := HR21.out
                rw [← er] at h
                exact slx_unmap (R := rowR) (fun r : Row => ((r.kind, r.name, ((r.root : Nat) : Int)) : Rw)) rfl (fun _ => rfl) h)
              have HS22 : Hid (SlX exR w21 (some ⟨g5, 0, none⟩) sz (PTree.exprsOf 0 rs2)) := Lib.hid (by
                have h := HS21.out
                rw [← ex] at h
                exact slx_unmap (R := exR) PShow.exX rfl (fun _ => rfl) h)
              have hrl9 : rl ≤ 4000 := by have := PTree.parse_fewP hp2; omega
              have HL2 := Lib.hid hl2; have HZ2 := Lib.hid hz2
              clear htx hTl hp2 er ex hl2 hz2 HR21 HS21 HTL
              go_wp2_with (go_at_call 9; refine PB.out.mono ?_)
              intro e5 w5 h5
              obtain ⟨A2, ca2, B2, cb2, rfl, s3, s4, b5⟩ := h5
              obtain ⟨w6, hw6, ZB, b6⟩ : ∃ w6, w5.alloc (.cells #[.slice none 0 0, .slice none 0 0] 26) = w6 ∧ Box w6 w5.heap.size [.slice none 0 0, .slice none 0 0] ∧ Below w5.heap.size w5 w6 := ⟨_, rfl, Box.new _ _ [.slice none 0 0, .slice none 0 0], (Below.refl _ _).alloc (Nat.le_refl _) _⟩
              obtain ⟨w7, hw7, Z7, ON7⟩ := store2 ZB (.slice A2 rl ca2) (.slice B2 sz cb2)
              have b7 := ON7.below (Nat.le_refl _) b6
              have b57 := below_step b5 b7
              have BD : Below w7.heap.size w7 w7.drew := (Below.refl _ _).drew
              have B7 := below_step (below_step B21.out b57) BD
              obtain ⟨y0, y1⟩ := px2 ZB
              obtain ⟨z0, z1⟩ := px2f ZB
              have hs6 := ZB.1
              obtain ⟨p0, p1⟩ := px2 ((HQ21.out.on b57).on BD)
              obtain ⟨r0, r1⟩ := px2 (Z7.on BD)
              have ZZ : (w7.drew.cell? ⟨qb, 0, none⟩ = some (.slice A1 rl ca1) ∧ w7.drew.cell? ⟨qb, 1, none⟩ = some (.slice (some ⟨g5, 0, none⟩) sz c5)) ∧ w7.drew.cell? ⟨w5.heap.size, 0, none⟩ = some (.slice A2 rl ca2) ∧ w7.drew.cell? ⟨w5.heap.size, 1, none⟩ = some (.slice B2 sz cb2) := ⟨⟨p0, p1⟩, r0, r1⟩
              have e1 : (PTree.rowsOf 0 rs2).length = rl := by rw [rowsOf_len0, HL2.out]
              have e2 : (PTree.exprsOf 0 rs2).length = sz := by rw [PTree.exprsOf_len, HZ2.out]
              obtain ⟨rows, hrows⟩ : ∃ x, PTree.rowsOf 0 rs2 = x := ⟨_, rfl⟩
              obtain ⟨exs, hexs⟩ : ∃ x, PTree.exprsOf 0 rs2 = x := ⟨_, rfl⟩
              have S18 := (HR22.out.on b57).on BD; have S28 := (HS22.out.on b57).on BD
              have S38 := (s3.on b7).on BD; have S48 := (s4.on b7).on BD
              rw [hrows] at S18 S38 e1
              rw [hexs] at S28 S48 e2
              have hTabD := HT21.out.on (below_step b57 BD)
              have HW7 := Lib.hid hw7
              clear ZB Z7 ON7 b5 b6 b7 b57 hw7 PB s3 s4 HQ21 HR22 HS22 BD p0 p1 r0 r1 HL2 HZ2 hrows hexs
              go_upto_region 25 with fail
              rw [HW7.out]
              obtain ⟨H, hH⟩ : ∃ H, w5.heap.size = H := ⟨_, rfl⟩
              rw [hH] at ZZ
              (try rw [hH])
              clear HW7 hw6 y0 y1 z0 z1 hs6 hH
              have n1 : rows.length ≤ 90000 := by omega
              have n2 : exs.length ≤ 90000 := by omega
              subst e1; subst e2
              have CP := tref_any (ca := ca1) (cb := c5) S18 S28 n1 n2
              have S3 := Lib.hid S38; have S4 := Lib.hid S48
              have HBD := Lib.hid B7
              have HTD := Lib.hid hTabD
              clear S18 S28 S38 S48 B7 hTabD B21 HT21
              go_region_held3 (fun w' => (w'.cell? ⟨qb, 0, none⟩ = some (.slice A1 rows.length ca1) ∧ w'.cell? ⟨qb, 1, none⟩ = some (.slice (some ⟨g5, 0, none⟩) exs.length c5)) ∧ w'.cell? ⟨H, 0, none⟩ = some (.slice A2 rows.length ca2) ∧ w'.cell? ⟨H, 1, none⟩ = some (.slice B2 exs.length cb2))
                (first
                  | with_reducible exact ZZ
                  | with_reducible exact Z8
                  | with_reducible exact Z9
                  | with_reducible exact ZA
                  | with_reducible exact ZB)
                (first
                  | (go_at_call 12; (with_reducible refine CP.mono ?_); rintro _ w9 ⟨A8, ca8, B8, cb8, rfl, s81, s82, -, -, b8⟩; have Z8 := keep22 b8 ZZ; have CQ := tref_any (ca := ca2) (cb := cb2) (S3.out.on b8) (S4.out.on b8) n1 n2)
                  | (go_at_call 12; (with_reducible refine CQ.mono ?_); rintro _ w10 ⟨A9, ca9, B9, cb9, rfl, s91, s92, -, -, b9⟩; have Z9 := keep22 b9 Z8; have CS := tsame_any (ca := ca8) (cb := cb8) (ca' := ca9) (cb' := cb9) (s81.on b9) (s82.on b9) s91 s92 rfl rfl n1 n2)
                  | (go_at_call 11; (with_reducible refine CS.mono ?_); rintro _ w11 ⟨rfl, b10⟩; have ZA := keep22 b10 Z9; have CW := aw9_any w11 (HTD.out.on (below_step (below_step b8 b9) b10)))
                  | (go_at_call 8; (with_reducible refine CW.mono ?_); rintro _ w12 ⟨rfl, b11⟩; have ZB := keep22 b11 ZA))
              all_goals
                have BZ := Lib.hid (below_step (below_step (below_step (below_step HBD.out b8) b9) b10) b11)
                clear ZZ Z8 Z9 ZA ZB CP CQ CS CW b8 b9 b10 b11 s81 s82 s91 s92
                go_wp2_with fail
                exact FIN.out _ BZ.out
end Go.Proofs.YtpakepapjnakgaaDoor
