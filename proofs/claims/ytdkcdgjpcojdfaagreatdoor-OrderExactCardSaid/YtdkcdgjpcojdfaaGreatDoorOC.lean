/-
  The kinds of rules in their order, one by one; what is told of them. Rows of kinds beside a row of bindings.
  What the reference of layer 11 answers: the order, and the kinds, of what was read, or the error.
-/
import Derived.Test.YtdkcdgjpcojdfaaGreatDoorLaw11AwakeG
import Derived.Test.YtdkcdgjpcojdfaaGreatDoorRT

set_option linter.unusedVariables false
namespace POrd
theorem sortF_ok {n : Nat} {H : Nat → Nat → Bool} : ∀ (f : Nat) (l r : List Nat) (z : Nat), Good0 n l → n ≤ l.length + f → sortF n H f l = (some r, z) → Good0 n r ∧ r.length = n
  | 0, l, r, z, h, hf, e => by
    simp only [sortF, Prod.mk.injEq, Option.some.injEq] at e
    obtain ⟨rfl, -⟩ := e
    exact ⟨h, by have := good0_len h; omega⟩
  | f + 1, l, r, z, h, hf, e => by
    by_cases hl : l.length < n
    · cases hn : next n H l with
      | none => rw [sortF_stop hl hn] at e; cases e
      | some i =>
        rw [sortF_more hl hn] at e
        exact sortF_ok f _ r z (good0_snoc h hn) (by simp; omega) e
    · rw [sortF_done hl] at e
      simp only [Prod.mk.injEq, Option.some.injEq] at e
      obtain ⟨rfl, -⟩ := e
      exact ⟨h, by have := good0_len h; omega⟩
theorem ans_ok {names : List (List UInt8)} {H : Nat → Nat → Bool} {l : List Nat} {at' : Nat} (h : ans names H = (l, at', 0)) : Good0 names.length l ∧ l.length = names.length ∧ at' = 0 := by
  cases htw : twice names with
  | some i => rw [ans_some htw] at h; cases h
  | none =>
    rw [ans_none htw] at h
    cases hs : sort names.length H with
    | mk o z =>
      rw [hs] at h
      cases o with
      | none => cases h
      | some r =>
        have h : (r, 0, 0) = (l, at', 0) := h
        cases h
        obtain ⟨h1, h2⟩ := sortF_ok names.length [] l z ⟨List.nodup_nil, fun i h => by cases h⟩ (by simp) hs
        exact ⟨h1, h2, rfl⟩
theorem ans_err {names : List (List UInt8)} {H : Nat → Nat → Bool} {l : List Nat} {at' e : Nat} (h : ans names H = (l, at', e)) (he : e ≠ 0) : l = [] := by
  cases htw : twice names with
  | some i => rw [ans_some htw] at h; cases h; rfl
  | none =>
    rw [ans_none htw] at h
    cases hs : sort names.length H with
    | mk o z =>
      rw [hs] at h
      cases o with
      | none =>
        have h : (([] : List Nat), z, 8) = (l, at', e) := h
        cases h; rfl
      | some r =>
        have h : (r, 0, 0) = (l, at', e) := h
        cases h; exact absurd rfl he
end POrd
namespace Go.Proofs.YtdkcdgjpcojdfaaGreatDoor
open Go.RowKit
open PCheck (Xp Bd)
open PTree (Tr Rl Ex Wf X0)

def letS : List UInt8 := [108, 101, 116]
def chk (E : List Xp) (RL : List Rw) : List Nat → List Bd → List Int → List Int × Nat × Nat
  | [], _, ks => (ks, 0, 0)
  | i :: l, bd, ks => match RL[i]? with
    | none => (ks, 0, 0)
    | some r => if (PCheck.kind E r.2.2 bd).2.2 ≠ 0 then ([], i, (PCheck.kind E r.2.2 bd).2.2)
      else if r.1 ≠ letS ∧ (PCheck.kind E r.2.2 bd).1 ≠ 1 then ([], i, 7)
      else chk E RL l (bd ++ [⟨r.2.1, (PCheck.kind E r.2.2 bd).1⟩]) (ks.set i (PCheck.kind E r.2.2 bd).1)
def chkR (l : List Nat) : List Int × Nat × Nat → List Nat × List Int × Nat × Nat
  | (ks, _, 0) => (l, ks, 0, 0)
  | (_, p, e + 1) => ([], [], p, e + 1)
def chkA (n : Nat) (E : List Xp) (RL : List Rw) : List Nat × Nat × Nat → List Nat × List Int × Nat × Nat
  | (l, _, 0) => chkR l (chk E RL l POrd.inB (List.replicate n 0))
  | (_, at', e + 1) => ([], [], at', e + 1)
def ChkAns (F : List Nat × List Int × Nat × Nat) (w : World) (e : Ending) (w' : World) : Prop := ∃ A c B d, e = .returned (.tuple #[.slice A F.1.length c, .slice B F.2.1.length d, .int .i64 (F.2.2.1 : Nat), .int .i64 (F.2.2.2 : Nat)]) ∧ SlX intR w' A F.1.length (plI F.1) ∧ SlX intR w' B F.2.1.length F.2.1 ∧ (A = none → c = 0) ∧ F.1.length ≤ c ∧ (B = none → d = 0) ∧ F.2.1.length ≤ d ∧ Below w.heap.size w w'
theorem rwk_keep {B : Nat} {w w' : World} {H N : Nat} {l : List Int} (h : RwK w H N l) (hb : Below B w w') (hH : H < B) : RwK w' H N l :=
  ⟨h.1, fun t ht => ⟨(hb.cell (p := ⟨H, t, none⟩) hH).trans (h.2 t ht).1, (hb.frozen (p := ⟨H, t, none⟩) hH).trans (h.2 t ht).2⟩⟩
theorem rwk_slx {w : World} {H N : Nat} {l : List Int} (h : RwK w H N l) : SlX intR w (some ⟨H, 0, none⟩) N l := by
  refine ⟨h.1, .inr ⟨H, 0, rfl, fun i hi j v e => ?_⟩⟩
  have hj : j = 0 := by
    have := (List.getElem?_eq_some_iff.1 e).1
    simp [intR] at this; exact this
  subst hj
  have hk : intR.k = 1 := rfl
  rw [hk, Nat.mul_one, Nat.add_zero, Nat.zero_add]
  have := (h.2 i (by rw [← h.1]; exact hi)).1
  rw [List.getD, List.getElem?_eq_getElem hi] at this
  rw [this]
  simp only [intR, List.getElem?_cons_zero, Option.some.injEq] at e
  rw [← e]; rfl
theorem own_store {w : World} {base e size n : Nat} {v : Value} {xs : List Value} (h : w.ownsRow base e size v n xs) {p : Addr} (hp : p.block < base) (x : Value) : (w.setCell p x).ownsRow base e size v n xs := by
  obtain ⟨h1, h2⟩ := h
  refine ⟨h1, ?_⟩
  rcases h2 with h2 | ⟨g, cap, cur, rfl, hg, hh, r⟩
  · exact .inl h2
  · exact .inr ⟨g, cap, cur, rfl, hg, (Below.heap_setCell _ _ _ _ (by omega)).trans hh, r⟩
def InsOwn (e : TypeId) (w : World) (x : Ending) (w' : World) : Prop := ∃ v, x = .returned v ∧ w'.ownsRow w.heap.size e bdR.k v 5 (bdR.cells POrd.inB) ∧ Below w.heap.size w w'
set_option maxHeartbeats 1600000 in
theorem r11inputs_own (w : World) : Calls Tryz.prog 17 #[] w (InsOwn 50 w) := by
  obtain ⟨Q, hQ⟩ : ∃ Q, InsOwn 50 w = Q := ⟨_, rfl⟩
  rw [hQ]
  have FIN : Hid (Q (.returned (.slice (some ⟨w.heap.size, 0, none⟩) 5 5)) (w.alloc (.cells #[.string { data := #[98, 97, 115, 101] }, .int .i64 1, .string { data := #[98, 111, 110, 117, 115] }, .int .i64 1, .string { data := #[104, 111, 117, 114, 115] }, .int .i64 3, .string { data := #[100, 97, 121, 115] }, .int .i64 3, .string { data := #[108, 101, 97, 100] }, .int .i64 4] 50))) := Lib.hid (by
    rw [← hQ]
    exact ⟨_, rfl, own_built bdR w 50 POrd.inB (Nat.le_refl _) (by decide), (Below.refl _ _).alloc (Nat.le_refl _) _⟩)
  clear hQ
  go_enter Tryz.func17, Tryz.ntmps17
  go_wp2_with fail
  exact FIN.out
set_option maxHeartbeats 1600000 in
theorem kinputs_own (w : World) : Calls Tryz.prog 16 #[] w (InsOwn 49 w) := by
  obtain ⟨Q, hQ⟩ : ∃ Q, InsOwn 49 w = Q := ⟨_, rfl⟩
  rw [hQ]
  have FIN : Hid (Q (.returned (.slice (some ⟨w.heap.size, 0, none⟩) 5 5)) (w.alloc (.cells #[.string { data := #[98, 97, 115, 101] }, .int .i64 1, .string { data := #[98, 111, 110, 117, 115] }, .int .i64 1, .string { data := #[104, 111, 117, 114, 115] }, .int .i64 3, .string { data := #[100, 97, 121, 115] }, .int .i64 3, .string { data := #[108, 101, 97, 100] }, .int .i64 4] 49))) := Lib.hid (by
    rw [← hQ]
    exact ⟨_, rfl, own_built bdR w 49 POrd.inB (Nat.le_refl _) (by decide), (Below.refl _ _).alloc (Nat.le_refl _) _⟩)
  clear hQ
  go_enter Tryz.func16, Tryz.ntmps16
  go_wp2_with fail
  exact FIN.out
theorem bd_recTyR : RecTy bdR 50 51 24 where
  info := ⟨.agg #[.string ⟨#[]⟩, .int .i64 0], by kernel_rfl, by rfl⟩
  under := by kernel_rfl
  few := by decide
theorem bd_recTyK : RecTy bdR 49 46 24 where
  info := ⟨.agg #[.string ⟨#[]⟩, .int .i64 0], by kernel_rfl, by rfl⟩
  under := by kernel_rfl
  few := by decide
end Go.Proofs.YtdkcdgjpcojdfaaGreatDoor

set_option linter.unusedVariables false
namespace Go.Proofs.YtdkcdgjpcojdfaaGreatDoor
open Go.RowKit
open PCheck (Xp Bd)
open PTree (Tr Rl Ex Wf X0)

theorem chk_step {E : List Xp} {RL : List Rw} {l : List Nat} {bd : List Bd} {ks : List Int} {i : Nat} {kd nm : List UInt8} {root : Int} (h : RL[i]? = some (kd, nm, root)) {k : Int} {p e : Nat} (hk : PCheck.kind E root bd = (k, p, e)) :
    (e ≠ 0 → chk E RL (i :: l) bd ks = ([], i, e)) ∧ (e = 0 → kd ≠ letS → k ≠ 1 → chk E RL (i :: l) bd ks = ([], i, 7)) ∧ (e = 0 → (kd = letS ∨ k = 1) → chk E RL (i :: l) bd ks = chk E RL l (bd ++ [⟨nm, k⟩]) (ks.set i k)) := by
  have e0 : chk E RL (i :: l) bd ks = if e ≠ 0 then ([], i, e) else if kd ≠ letS ∧ k ≠ 1 then ([], i, 7) else chk E RL l (bd ++ [⟨nm, k⟩]) (ks.set i k) := by
    conv => lhs; unfold chk
    rw [h]
    simp only []
    rw [hk]
  rw [e0]
  refine ⟨fun h1 => if_pos h1, fun h1 h2 h3 => ?_, fun h1 h2 => ?_⟩
  · rw [if_neg (by omega), if_pos ⟨h2, h3⟩]
  · rw [if_neg (by omega), if_neg (by rintro ⟨a, b⟩; rcases h2 with h2 | h2; exact a h2; exact b h2)]
theorem drop_next {l : List Nat} {q : Nat} {i : Nat} (h : l[q]? = some i) : l.drop q = i :: l.drop (q + 1) := by
  obtain ⟨hq, rfl⟩ := List.getElem?_eq_some_iff.1 h
  exact List.drop_eq_getElem_cons hq
set_option maxHeartbeats 12800000 in
set_option maxRecDepth 100000 in
theorem r11check_any {w : World} {n c rn rc : Nat} {A RA : Option Addr} {rs : List Rl} (hR : SlX rlR w RA rn (rwX rs)) (hE : SlX xpR w A n (xpX rs)) (hW : ∀ r ∈ rs, Wf X0 r.tree) (hn : n ≤ 900) (hrn : rn ≤ 900) :
    Calls Tryz.prog 14 #[.agg #[.slice RA rn rc, .slice A n c]] w (ChkAns (chkA rn (xpX rs) (rwX rs) (POrd.ans (nmR (rwX rs)) (POrd.hangs rs))) w) := by
  obtain ⟨F, hF⟩ : ∃ F, POrd.ans (nmR (rwX rs)) (POrd.hangs rs) = F := ⟨_, rfl⟩
  obtain ⟨l, at', er⟩ := F
  rw [hF]
  obtain ⟨Q, hQ⟩ : ∃ Q, ChkAns (chkA rn (xpX rs) (rwX rs) (l, at', er)) w = Q := ⟨_, rfl⟩
  rw [hQ]
  have hRl : (rwX rs).length = rn := hR.1
  have hnl : (nmR (rwX rs)).length = rn := by rw [nmR_len]; exact hRl
  obtain ⟨w1, hw1, XB, b1⟩ : ∃ w1, w.alloc (.cells #[.slice RA rn rc, .slice A n c] 26) = w1 ∧ Box w1 w.heap.size [.slice RA rn rc, .slice A n c] ∧ Below w.heap.size w w1 := ⟨_, rfl, Box.new _ _ [.slice RA rn rc, .slice A n c], (Below.refl _ _).alloc (Nat.le_refl _) _⟩
  have ct := r11sort_any (rc := rc) (c := c) (hR.on b1) (hE.on b1) hW (by omega) (by omega)
  rw [hF] at ct
  have CT := Lib.hid ct
  have HXB := Lib.hid XB; have HR := Lib.hid (hR.on b1); have HE := Lib.hid (hE.on b1); have B1 := Lib.hid b1; have HW1 := Lib.hid hw1
  obtain ⟨x0, x1⟩ := px2 XB
  have hsx := XB.1
  by_cases her : er = 0
  · subst her
    obtain ⟨hg, hll, rfl⟩ := POrd.ans_ok hF
    rw [hnl] at hg hll
    obtain ⟨S, hS⟩ : ∃ S, chk (xpX rs) (rwX rs) l POrd.inB (List.replicate rn 0) = S := ⟨_, rfl⟩
    have FIN1 : Hid (∀ (ks : List Int) (X : Option Addr) (cx K : Nat) (w' : World), S = (ks, 0, 0) → ks.length = rn → SlX intR w' X rn (plI l) → (X = none → cx = 0) → rn ≤ cx → SlX intR w' (some ⟨K, 0, none⟩) rn ks → Below w.heap.size w w' → Q (.returned (.tuple #[.slice X rn cx, .slice (some ⟨K, 0, none⟩) rn rn, .int .i64 0, .int .i64 0])) w') := Lib.hid (fun ks X cx K w' hs hk h1 h2 h4 h3 a => by
      rw [← hQ]
      unfold ChkAns chkA chkR
      simp only []
      rw [hS, hs]
      exact ⟨X, cx, some ⟨K, 0, none⟩, rn, by rw [hll, hk]; rfl, by rw [hll]; exact h1, by rw [hk]; exact h3, h2, by rw [hll]; exact h4, (fun e => by cases e), by rw [hk]; exact Nat.le_refl _, a⟩)
    have FIN2 : Hid (∀ (p e : Nat) (w' : World), S = ([], p, e) → e ≠ 0 → Below w.heap.size w w' → Q (.returned (.tuple #[.slice none 0 0, .slice none 0 0, .int .i64 (p : Nat), .int .i64 (e : Nat)])) w') := Lib.hid (fun p e w' hs he a => by
      rw [← hQ]
      obtain ⟨e, rfl⟩ : ∃ e', e = e' + 1 := ⟨e - 1, by omega⟩
      unfold ChkAns chkA chkR
      simp only []
      rw [hS, hs]
      exact ⟨none, 0, none, 0, rfl, slr_nil _ _ _, slr_nil _ _ _, fun _ => rfl, Nat.le_refl _, fun _ => rfl, Nat.le_refl _, a⟩)
    have HG := Lib.hid hg; have HLL := Lib.hid hll; have HS := Lib.hid hS; have HRL := Lib.hid hRl
    clear hQ hF hR hE hW XB b1 hw1 ct hg hll hS hRl hnl
    go_enter Tryz.func14, Tryz.ntmps14
    go_upto_region 1 with fail
    rw [HW1.out]
    clear HW1
    go_wp2_with (go_at_call 12; refine CT.out.mono ?_)
    intro e2 w2 h2
    obtain ⟨LA, lc, rfl, sl, hL0, b2⟩ := h2
    simp only [] at sl ⊢
    rw [HLL.out] at sl ⊢
    obtain ⟨hL0, hlc⟩ := hL0
    have hlc : rn ≤ lc := by have := hlc; simp only [] at this; rw [HLL.out] at this; exact this
    have HSL := Lib.hid sl; have HL0 := Lib.hid hL0; have HLC := Lib.hid hlc
    have B2 := Lib.hid (below_step B1.out b2)
    have HXB2 := Lib.hid (HXB.out.on b2); have HR2 := Lib.hid (HR.out.on b2); have HE2 := Lib.hid (HE.out.on b2)
    have hmk := make_rowK rn (by omega) w2
    obtain ⟨w3, hw3, U3, b3⟩ : ∃ w3, w2.alloc (.cells (madeCells #[.int .i64 0] rn) 3) = w3 ∧ RwK w3 w2.heap.size rn (List.replicate rn 0) ∧ Below w2.heap.size w2 w3 := ⟨_, rfl, made_rwK w2 rn, (Below.refl _ _).alloc (Nat.le_refl _) _⟩
    rw [hw3] at hmk
    have hs3 : w2.heap.size < w3.heap.size := by rw [← hw3]; simp
    obtain ⟨x0, x1⟩ := px2 HXB2.out
    have hsx := HXB2.out.1
    have CI := Lib.hid (r11inputs_own w3)
    have HU3 := Lib.hid U3; have HB3 := Lib.hid b3; have HS3 := Lib.hid hs3
    clear hL0 hlc sl b2 HXB HR HE B1 CT hw3 U3 b3 hs3
    go_upto_region 5 with fail
    clear hmk x0 x1 hsx
    go_wp2_with (go_at_call 17; refine CI.out.mono ?_)
    intro e4 w4 h4
    obtain ⟨v4, rfl, ho4, b4⟩ := h4
    have HO4 := Lib.hid ho4
    have HU4 := Lib.hid (rwk_keep HU3.out b4 HS3.out)
    have B4 := Lib.hid (HB3.out.trans (b4.mono HB3.out.size))
    have S4 := Lib.hid b4.size
    clear ho4 b4 CI HU3 HB3
    go_wp2_with fail
    go_loopw [10, 33] (fun v x wx => ∃ (q : Nat) (bd : List Bd) (ks : List Int), x = .int .i64 q ∧ q ≤ rn ∧ Hid (bd.length = 5 + q) ∧ Hid (wx.ownsRow w3.heap.size 50 bdR.k v bd.length (bdR.cells bd)) ∧ Hid (RwK wx w2.heap.size rn ks) ∧ Hid (chk (xpX rs) (rwX rs) (l.drop q) bd ks = S) ∧ Hid (Below w2.heap.size w2 wx) ∧ Hid (w3.heap.size ≤ wx.heap.size)) (fun _ x _ => rn - (intOf x).toNat)
    case atStart => exact ⟨0, POrd.inB, List.replicate rn 0, rfl, Nat.zero_le _, Lib.hid rfl, HO4, HU4, HS, B4, S4⟩
    case round =>
      clear HO4 HU4 HS B4 S4
      obtain ⟨q, bd, ks, rfl, hq, J1, J2, J3, J4, J5, J6⟩ := hrel
      by_cases hqr : q < rn
      · have gq : (q : Int) < (rn : Int) := by omega
        obtain ⟨lb, lo, z, rfl, hz, cz⟩ := int_at (HSL.out.on J5.out) hqr
        obtain ⟨i, hi⟩ : ∃ i, l[q]? = some i := ⟨_, List.getElem?_eq_getElem (by rw [HLL.out]; exact hqr)⟩
        have hzi : z = ((i : Nat) : Int) := by
          unfold plI at hz
          rw [List.getElem?_map, hi] at hz
          exact (Option.some.inj hz).symm
        subst hzi
        have hin : i < rn := HG.out.lt i (List.mem_of_getElem? hi)
        have gi : (i : Int) < (rn : Int) := by omega
        obtain ⟨⟨kd, nm, root⟩, hx⟩ : ∃ x, (rwX rs)[i]? = some x := ⟨_, List.getElem?_eq_getElem (by rw [HRL.out]; exact hin)⟩
        obtain ⟨VA, vc, rfl, hV0, -, sv⟩ := slr_of_own J2.out rfl
        have RW := HR2.out.on J5.out
        obtain ⟨rb, ro, rfl, -⟩ := RW.at hin
        obtain ⟨c0, c1, c2⟩ := rl_cell RW hin hx
        have c0 : wr.cell? ⟨rb, ro + i * 3, none⟩ = some (.string ⟨kd.toArray⟩) := c0
        have c1 : wr.cell? ⟨rb, ro + i * 3 + 1, none⟩ = some (.string ⟨nm.toArray⟩) := c1
        have c2 : wr.cell? ⟨rb, ro + i * 3 + 2, none⟩ = some (.int .i64 root) := c2
        obtain ⟨x0, x1⟩ := px2 (HXB2.out.on J5.out)
        have hsx := World.block_lt_of_cell? wr _ x0; have hsz := World.block_lt_of_cell? wr _ cz; have hsc := World.block_lt_of_cell? wr _ c0
        have BD : Below wr.heap.size wr wr.drew := (Below.refl _ _).drew
        obtain ⟨⟨k, p, e⟩, hk⟩ : ∃ F, PCheck.kind (xpX rs) root bd = F := ⟨_, rfl⟩
        have ck := r10kind_any (RA := some ⟨rb, ro, none⟩) (rn := rn) (rc := rc) (c := c) (lc := vc) (r := root) ((HE2.out.on J5.out).on BD) (sv.on BD) (by omega) (by have := J1.out; omega)
        rw [hk] at ck
        have CK := ck
        obtain ⟨k1, k2, k3⟩ := chk_step (l := l.drop (q + 1)) (ks := ks) hx hk
        rw [← drop_next hi, J4.out] at k1 k2 k3
        have K1 := Lib.hid k1; have K2 := Lib.hid k2; have K3 := Lib.hid k3
        have ZZ : wr.drew.cell? ⟨w.heap.size, 0, none⟩ = some (.slice (some ⟨rb, ro, none⟩) rn rc) ∧ wr.drew.cell? ⟨w.heap.size, 1, none⟩ = some (.slice A n c) ∧ wr.drew.cell? ⟨rb, ro + i * 3 + 2, none⟩ = some (.int .i64 root) := ⟨x0, x1, c2⟩
        have C0 := Lib.hid c0; have C1 := Lib.hid c1
        have HBD := Lib.hid BD
        obtain ⟨bl, hbl⟩ : ∃ bl, bd.length = bl := ⟨_, rfl⟩
        rw [hbl] at J1 J2 CK
        simp only [hbl]
        have HBL := Lib.hid hbl
        clear hz hi hx RW BD hk ck k1 k2 k3 c0 c1 sv hV0 J4 hbl
        go_upto_region 9 with fail
        go_region_held3 (fun w' => w'.cell? ⟨w.heap.size, 0, none⟩ = some (.slice (some ⟨rb, ro, none⟩) rn rc) ∧ w'.cell? ⟨w.heap.size, 1, none⟩ = some (.slice A n c) ∧ w'.cell? ⟨rb, ro + i * 3 + 2, none⟩ = some (.int .i64 root))
          (first
            | with_reducible exact ZZ
            | with_reducible exact Z5)
          (first
            | (go_at_call 38; (with_reducible refine CK.mono ?_); intro e5 w5 h5; obtain ⟨rfl, b5⟩ := h5; have Z5 := keep3r b5 ZZ))
        have B05 := below_step HBD.out b5
        have J2 := Lib.hid (own_kept J2.out B05); have J3 := Lib.hid (J3.out.on B05); have J5 := Lib.hid (J5.out.trans (B05.mono J5.out.size)); have J6 := Lib.hid (Nat.le_trans J6.out B05.size)
        have c0 := (B05.cell (World.block_lt_of_cell? wr _ C0.out)).trans C0.out
        have c1 := (B05.cell (World.block_lt_of_cell? wr _ C1.out)).trans C1.out
        obtain ⟨x0', x1', -⟩ := Z5
        have hsc5 := World.block_lt_of_cell? w5 _ c0; have hsx5 := World.block_lt_of_cell? w5 _ x0'
        clear ZZ CK b5 HBD B05 C0 C1 x0 x1 hsx hsz hsc c2 cz
        by_cases he : e = 0
        · subst he
          by_cases hkl : kd = letS ∨ k = 1
          · have HST := Lib.hid (K3.out rfl hkl)
            obtain ⟨cu, fu⟩ := J3.out.2 i hin
            have hsk := World.block_lt_of_cell? w5 _ cu
            obtain ⟨w6, hw6, U6, b6⟩ : ∃ w6, w5.setCell ⟨w2.heap.size, i, none⟩ (.int .i64 k) = w6 ∧ RwK w6 w2.heap.size rn (ks.set i k) ∧ Below w2.heap.size w2 w6 := ⟨_, rfl, J3.out.set hin k, J5.out.setCell (Nat.le_refl _) _⟩
            have O6 : w6.ownsRow w3.heap.size 50 bdR.k (.slice VA bl vc) bl (bdR.cells bd) := by rw [← hw6]; exact own_store J2.out HS3.out _
            have s6 : w3.heap.size ≤ w6.heap.size := by rw [← hw6]; simp only [World.size_setCell]; exact J6.out
            have y0 : w6.cell? ⟨w.heap.size, 0, none⟩ = some (.slice (some ⟨rb, ro, none⟩) rn rc) := (px2 (HXB2.out.on b6)).1
            have y1 : w6.cell? ⟨rb, ro + i * 3 + 1, none⟩ = some (.string ⟨nm.toArray⟩) := by
              rw [← hw6, World.cell?_setCell_far _ _ _ _ (by have h1 := (HR2.out.at hin); obtain ⟨b', o', e', hc'⟩ := h1; cases e'; have h2 := World.block_lt_of_cell? w2 _ (rl_cell HR2.out hin (List.getElem?_eq_getElem (by rw [HRL.out]; exact hin))).1; simp only [ne_eq] at h2 ⊢; omega)]
              exact c1
            have hsy := World.block_lt_of_cell? w6 _ y0; have hsy1 := World.block_lt_of_cell? w6 _ y1
            have HW6 := Lib.hid hw6; have HU6 := Lib.hid U6; have HB6 := Lib.hid b6; have HO6 := Lib.hid O6; have HS6 := Lib.hid s6
            have hbl9 : bl + 1 ≤ 100000 := by have := J1.out; omega
            clear U6 b6 O6 s6 hw6 J2 J3 J5 J6 K1 K2 K3
            have gcase : kd = letS ∨ (kd ≠ letS ∧ k = 1) := by
              by_cases h : kd = letS
              · exact .inl h
              · exact .inr ⟨h, hkl.resolve_left h⟩
            clear hkl
            rcases gcase with hkd | ⟨hkd, hk1⟩
            all_goals
              first
              | (simp only [letS] at hkd; subst hkd; go_upto_region 14 with fail)
              | (have gkd : (kd == [108, 101, 116]) = false := beq_eq_false_iff_ne.2 hkd
                 clear hkd
                 subst hk1
                 go_upto_region 14 with fail)
              go_upto_region 15 with fail
              rw [HW6.out]
              clear HW6 cu fu hsk c0 c1 x0' x1' hsc5 hsx5
              go_wp2_with (at_builtin; refine append_own1 bd_recTyR rfl _ _ rfl w3.heap.size _ bl bd (⟨nm, _⟩ : Bd) (by rfl) HO6.out (by rfl) hbl9 HS6.out ?_)
              intro v7 w7 ho7 hb7 hk7
              have hbl7 := HBL.out
              have HO7 := Lib.hid ho7
              have HU7 := Lib.hid (rwk_keep HU6.out hb7 HS3.out)
              have HB7 := Lib.hid (HB6.out.trans (hb7.mono (Nat.le_of_lt HS3.out)))
              have HS7 := Lib.hid (Nat.le_trans HS6.out hb7.size)
              clear ho7 hb7 hk7 HO6 HU6 HB6 HS6 y0 y1 hsy hsy1
              have HL7 : Hid (∀ k : Int, (bd ++ [(⟨nm, k⟩ : Bd)]).length = bl + 1) := Lib.hid (fun k => by rw [List.length_append, hbl7]; rfl)
              clear hbl7
              go_wp2_with fail
              exact ⟨⟨q + 1, _, _, rfl, by omega, Lib.hid (by rw [HL7.out]; have := J1.out; omega), Lib.hid (by rw [HL7.out]; exact HO7.out), HU7, Lib.hid HST.out.symm, HB7, HS7⟩, by simp [intOf]; omega⟩
          · have hkd : kd ≠ letS := fun h => hkl (.inl h)
            have hk1 : k ≠ 1 := fun h => hkl (.inr h)
            have HST := Lib.hid (K2.out rfl hkd hk1)
            have gkd : (kd == [108, 101, 116]) = false := beq_eq_false_iff_ne.2 hkd
            have gk1 : (k == 1) = false := beq_eq_false_iff_ne.2 hk1
            have BW := Lib.hid (B2.out.trans (J5.out.mono B2.out.size))
            clear hkd hk1 hkl K1 K2 K3 J2 J3 J5 J6
            go_wp2_with fail
            refine bodyPost_ret (by simp [results, Tryz.results14, go_sem]; try rfl) rfl ?_
            exact FIN2.out _ 7 _ HST.out (by decide) BW.out
        · have HST := Lib.hid (K1.out he)
          have ge : ((e : Int) == 0) = false := by rw [beq_eq_false_iff_ne]; omega
          have BW := Lib.hid (B2.out.trans (J5.out.mono B2.out.size))
          have HE0 := Lib.hid he
          clear K1 K2 K3 J2 J3 J5 J6 he
          go_wp2_with fail
          refine bodyPost_ret (by simp [results, Tryz.results14, go_sem]; try rfl) rfl ?_
          exact FIN2.out _ e _ HST.out HE0.out BW.out
      · obtain rfl : q = rn := by omega
        have HST : Hid (S = (ks, 0, 0)) := Lib.hid (by
          rw [← J4.out, List.drop_of_length_le (by rw [HLL.out]; exact Nat.le_refl _)]
          rfl)
        have gq : ¬ (q : Int) < (q : Int) := by omega
        have BW := Lib.hid (B2.out.trans (J5.out.mono B2.out.size))
        have HSLr := Lib.hid (HSL.out.on J5.out)
        clear hqr J4 J2
        go_wp2_with fail
        refine bodyPost_ret (by simp [results, Tryz.results14, go_sem]; try rfl) rfl ?_
        exact FIN1.out ks LA lc _ _ HST.out J3.out.1 HSLr.out HL0.out HLC.out (rwk_slx J3.out) BW.out
  · have FIN : Hid (∀ w' : World, Below w.heap.size w w' → Q (.returned (.tuple #[.slice none 0 0, .slice none 0 0, .int .i64 (at' : Nat), .int .i64 (er : Nat)])) w') := Lib.hid (fun w' a => by
      rw [← hQ]
      obtain ⟨e, rfl⟩ : ∃ e', er = e' + 1 := ⟨er - 1, by omega⟩
      exact ⟨none, 0, none, 0, rfl, slr_nil _ _ _, slr_nil _ _ _, fun _ => rfl, Nat.le_refl _, fun _ => rfl, Nat.le_refl _, a⟩)
    have ger : ((er : Int) == 0) = false := by rw [beq_eq_false_iff_ne]; omega
    clear hQ hF hR hE hW XB b1 hw1 ct hRl hnl
    go_enter Tryz.func14, Tryz.ntmps14
    go_upto_region 1 with fail
    rw [HW1.out]
    clear HW1
    go_wp2_with (go_at_call 12; refine CT.out.mono ?_)
    intro e2 w2 h2
    obtain ⟨LA, lc, rfl, sl, hL0, b2⟩ := h2
    have B2 := Lib.hid (below_step B1.out b2)
    clear b2 sl hL0 CT
    go_wp2_with fail
    refine bodyPost_ret (by simp [results, Tryz.results14, go_sem]; try rfl) rfl ?_
    exact FIN.out _ B2.out
end Go.Proofs.YtdkcdgjpcojdfaaGreatDoor
