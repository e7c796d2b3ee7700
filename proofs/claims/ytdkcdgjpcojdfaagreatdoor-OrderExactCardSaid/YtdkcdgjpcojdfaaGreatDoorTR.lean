/-
  What the landed reader answers: what is read so far, in memory; a token that is an expression by itself; what is in ().
  What the landed reader answers: a sign and the part behind it; what is in ().
  What the landed reader answers: words, and behind each of them an expression.
  What the landed reader answers: expressions, sums, products and factors, by what reads their parts.
  What the landed reader answers: an expression and a factor, by what reads their parts.
  What the landed reader answers: a factor, by what reads its parts; and all of them.
  What the landed reader answers: a rule.
-/
import Derived.Test.YtdkcdgjpcojdfaaGreatDoorTL
import Derived.Deep.DeepCutAuto

namespace PLex
theorem Lone.five {k : Nat} {u : List UInt8} (h : Lone kindOf k u) : k = 1 ∨ k = 2 ∨ k = 3 ∨ k = 4 ∨ k = 5 := by
  obtain ⟨c, r, rfl, _⟩ := id h
  have := h.num
  split at this <;> omega
end PLex
namespace Go.Proofs.YtdkcdgjpcojdfaaGreatDoor
open Go.RowKit
open PTree (R Ex Tr Md tx kd pl)

def RSt (c : Rc) (xs : List Ex) (r : Option (R Tr)) (a er : Int) (w : World) : Prop :=
  ∃ j ys, Rd c w j ys ∧ match r with
    | none => False
    | some (.bad e q) => er = (e : Nat) ∧ e ≠ 0 ∧ pl c.en c.ls j = q
    | some (.ok ts t) => er = 0 ∧ ts = c.ls.drop j ∧ ys = xs ++ t.flat xs.length ∧ a = ((xs.length + t.size - 1 : Nat) : Int)
def RAns (c : Rc) (xs : List Ex) (r : Option (R Tr)) (w : World) (e : Ending) (w' : World) : Prop :=
  ∃ a er, e = .returned (.tuple #[.int .i64 a, .int .i64 er]) ∧ RSt c xs r a er w' ∧ Below c.H w w' ∧ Kp c w w'
variable {c : Rc} {w w' : World} {j : Nat} {xs : List Ex} {r : Option (R Tr)}
theorem RSt.on {a er : Int} (h : RSt c xs r a er w) (hb : Below w.heap.size w w') : RSt c xs r a er w' := by
  obtain ⟨j, ys, h1, h2⟩ := h
  exact ⟨j, ys, h1.on hb, h2⟩
theorem rst_bad {xs' : List Ex} {a : Int} {e : Nat} (h : Rd c w j xs') (he : e ≠ 0) : RSt c xs (some (.bad e (pl c.en c.ls j))) a e w := ⟨j, _, h, rfl, he, rfl⟩
theorem RSt.split {a er : Int} (h : RSt c xs r a er w) : (er ≠ 0 ∧ ∃ e q, r = some (.bad e q)) ∨ (er = 0 ∧ ∃ j t, r = some (.ok (c.ls.drop j) t) ∧ Rd c w j (xs ++ t.flat xs.length) ∧ a = ((xs.length + t.size - 1 : Nat) : Int)) := by
  obtain ⟨j, ys, h1, h2⟩ := h
  cases r with
  | none => exact h2.elim
  | some r =>
    cases r with
    | bad e q => exact .inl ⟨by omega, e, q, rfl⟩
    | ok ts t =>
      obtain ⟨g1, rfl, rfl, g2⟩ := h2
      exact .inr ⟨g1, j, t, rfl, h1, g2⟩
theorem RSt.next {a b er : Int} (h : RSt c xs r a er w) (he : er ≠ 0) (k : List PLex.Tok → Tr → Option (R Tr)) (xs' : List Ex) : RSt c xs' (R.next r k) b er w := by
  obtain ⟨j, ys, h1, h2⟩ := h
  cases r with
  | none => exact h2.elim
  | some r =>
    cases r with
    | bad e q => exact ⟨j, ys, h1, h2⟩
    | ok ts t => exact absurd h2.1 he
def rleaf (en : Nat) (ls : List PLex.Tok) (j : Nat) : Option (R Tr) := match ls[j]? with
  | none => some (.bad 2 en)
  | some t => match PTree.leaf t with
    | none => some (.bad 2 t.at_)
    | some x => some (.ok (ls.drop (j + 1)) x)
theorem rleaf_end {en : Nat} {ls : List PLex.Tok} {j : Nat} (h : ls.length ≤ j) : rleaf en ls j = some (.bad 2 en) := by unfold rleaf; rw [List.getElem?_eq_none h]
theorem rleaf_at {en : Nat} {ls : List PLex.Tok} {j : Nat} {t : PLex.Tok} (h : ls[j]? = some t) : rleaf en ls j = match PTree.leaf t with
    | none => some (.bad 2 t.at_)
    | some x => some (.ok (ls.drop (j + 1)) x) := by unfold rleaf; rw [h]
theorem leafOf_at (ht : PTree.Toks c.ls) (hj : j ≤ c.ls.length) : ∃ y b, (∀ w, Calls Tryz.prog 129 #[.agg #[.int .i64 (kd c.ls j : Nat), .string ⟨(tx c.ls j).toArray⟩, .int .i64 (pl c.en c.ls j : Nat)]] w fun e w' => e = .returned (leafV y b) ∧ Below w.heap.size w w') ∧
    (b = true → j < c.ls.length ∧ ∃ x, rleaf c.en c.ls j = some (.ok (c.ls.drop (j + 1)) x) ∧ (∀ n, x.flat n = [y]) ∧ x.size = 1) ∧ (b = false → rleaf c.en c.ls j = some (.bad 2 (pl c.en c.ls j))) := by
  by_cases hlt : j < c.ls.length
  · have e0 : c.ls[j]? = some c.ls[j] := List.getElem?_eq_getElem hlt
    obtain ⟨lo, le⟩ := ht c.ls[j] (List.getElem_mem hlt)
    obtain ⟨T, hT⟩ : ∃ T, c.ls[j] = T := ⟨_, rfl⟩
    rw [hT] at e0 lo le
    have ek : kd c.ls j = T.kind := by unfold PTree.kd; rw [e0]
    have ex : tx c.ls j = T.text := by unfold PTree.tx; rw [e0]
    have ep : pl c.en c.ls j = T.at_ := by unfold PTree.pl; rw [e0]
    have er := rleaf_at (en := c.en) e0
    rw [ek, ex, ep, er]
    clear hT e0 ek ex ep er
    obtain ⟨k, u, p⟩ := T
    dsimp only at lo le ⊢
    have hsz : (⟨u.toArray⟩ : ByteArray).size ≤ 9223372036854775807 := by
      show u.toArray.size ≤ _
      rw [List.size_toArray]; omega
    have hu : (⟨u.toArray⟩ : ByteArray).data.toList = u := rfl
    rcases lo.five with rfl | rfl | rfl | rfl | rfl
    · refine ⟨_, _, fun w => leafn_any 1 ⟨u.toArray⟩ p w (by decide) (by decide) (by decide), ?_, ?_⟩
      · intro hb
        have hb' := (of_decide_eq_true hb).2
        rw [hu] at hb'
        refine ⟨hlt, .name u, ?_, fun n => rfl, rfl⟩
        simp only [PTree.leaf, if_neg hb', if_true]
      · intro hb
        have hb' := of_decide_eq_false hb
        have hm : u ∈ PTree.takenL := by
          by_cases h : u ∈ PTree.takenL
          · exact h
          · exact absurd ⟨rfl, h⟩ hb'
        simp only [PTree.leaf, if_pos hm, if_true]
    · refine ⟨_, _, fun w => leaf2_any ⟨u.toArray⟩ p w lo.whole, fun _ => ⟨hlt, .whole (PTree.numOf u), ?_, fun n => rfl, rfl⟩, fun h => by cases h⟩
      simp [PTree.leaf]
    · obtain ⟨n, hn⟩ := lo.amount
      refine ⟨_, _, fun w => leaf3_any ⟨u.toArray⟩ p w hsz hn, fun _ => ⟨hlt, .amount n, ?_, fun n => rfl, rfl⟩, fun h => by cases h⟩
      simp [PTree.leaf, hn]
    · obtain ⟨n, hn⟩ := lo.percent
      refine ⟨_, _, fun w => leaf4_any ⟨u.toArray⟩ p w hsz hn, fun _ => ⟨hlt, .rate n, ?_, fun n => rfl, rfl⟩, fun h => by cases h⟩
      simp [PTree.leaf, hn]
    · refine ⟨_, _, fun w => leafn_any 5 ⟨u.toArray⟩ p w (by decide) (by decide) (by decide), ?_, ?_⟩
      · intro hb
        exact absurd (of_decide_eq_true hb).1 (by decide)
      · intro _
        simp [PTree.leaf]
  · obtain rfl : j = c.ls.length := by omega
    have e0 : c.ls[c.ls.length]? = none := List.getElem?_eq_none (Nat.le_refl _)
    have ek : kd c.ls c.ls.length = 0 := by unfold PTree.kd; rw [e0]
    have ex : tx c.ls c.ls.length = [] := by unfold PTree.tx; rw [e0]
    have ep : pl c.en c.ls c.ls.length = c.en := by unfold PTree.pl; rw [e0]
    rw [ek, ex, ep, rleaf_end (Nat.le_refl _)]
    refine ⟨_, _, fun w => leafn_any 0 ⟨#[]⟩ c.en w (by decide) (by decide) (by decide), ?_, fun _ => rfl⟩
    intro hb
    exact absurd (of_decide_eq_true hb).1 (by decide)
set_option maxHeartbeats 3200000 in
theorem leaf_any (ht : PTree.Toks c.ls) (h : Rd c w j xs) (hn : xs.length + 1 ≤ 100000) :
    Calls Tryz.prog 125 #[c.p] w (RAns c xs (rleaf c.en c.ls j) w) := by
  obtain ⟨y, b, HL, h1, h2⟩ := leafOf_at ht h.le
  have HL := Lib.hid HL
  have HR := Lib.hid h
  obtain ⟨Q, hQ⟩ : ∃ Q, RAns c xs (rleaf c.en c.ls j) w = Q := ⟨_, rfl⟩
  rw [hQ]
  have HQ := Lib.hid hQ
  obtain ⟨o, n, cp, V, _, _, _, hn0, _, hb, t0, t1, t2⟩ := h.see
  obtain ⟨c0, c1⟩ := box2 hb
  have hsz := hb.1
  have hz := World.block_lt_of_cell? w _ t1
  obtain ⟨kk, hkk⟩ : ∃ k : Int, ((kd c.ls j : Nat) : Int) = k := ⟨_, rfl⟩
  obtain ⟨pp, hpp⟩ : ∃ k : Int, ((pl c.en c.ls j : Nat) : Int) = k := ⟨_, rfl⟩
  obtain ⟨tb, htb⟩ : ∃ b, ({ data := (tx c.ls j).toArray } : ByteArray) = b := ⟨_, rfl⟩
  rw [hkk] at t0 HL; rw [hpp] at t2 HL; rw [htb] at t1 HL
  have HN := Lib.hid hn
  clear hb h htb hpp hkk hQ hn
  unfold Rc.p leafV exC at *
  cases b with
  | true =>
    have H1 := Lib.hid (h1 rfl)
    clear h1 h2
    go_enter Tryz.func125, Tryz.ntmps125
    go_wp2_with fail
    refine (HL.out _).mono ?_
    rintro _ w1 ⟨rfl, b⟩
    have R1 := HR.out.on b
    obtain ⟨hj, x, h4, h5, h6⟩ := H1.out
    have B1 := Lib.hid (b.mono (Nat.le_of_lt HR.out.lt))
    have K1 := Lib.hid (Kp.below HR.out.lt b)
    go_upto_region 4 with fail
    obtain ⟨w2, hw2, EB, b2⟩ : ∃ w2, w1.alloc (.cells (exC y).toArray 58) = w2 ∧ Box w2 w1.heap.size (exC y) ∧ Below w1.heap.size w1 w2 := ⟨_, rfl, Box.new _ _ _, (Below.refl _ _).alloc (Nat.le_refl _) _⟩
    have FE := R1.fresh (Nat.le_refl _) EB.1 b2
    have R2 := R1.on b2
    have B2 := Lib.hid (B1.out.trans (b2.mono (Nat.le_of_lt R1.lt)))
    have K2 := Lib.hid (K1.out.trans (Kp.below R1.lt b2))
    have HS := Lib.hid (skip_any R2 hj)
    have HH := Lib.hid h4; have H5 := Lib.hid (h5 xs.length); have H6 := Lib.hid h6
    obtain ⟨X, hX⟩ : ∃ X, w1.heap.size = X := ⟨_, rfl⟩
    unfold exC at hw2
    rw [hw2]
    rw [hX] at EB FE ⊢
    have EB := Lib.hid EB; have FE := Lib.hid FE
    clear hw2 hX b b2 R1 R2 B1 K1 hj h4 h5 h6 HL t0 t1 t2 c0 c1 hz H1
    unfold Rc.p at HS
    go_wp2_with fail
    refine HS.out.mono ?_
    rintro _ w3 ⟨rfl, R3, b3, k3⟩
    have EB3 := EB.out.kp FE.out k3
    obtain ⟨e0, e1, e2, e3, e4, e5⟩ := box6 EB3
    have hs3 := EB3.1
    have HP := put_any R3 y HN.out
    unfold Rc.p exC at HP
    have HP := Lib.hid HP
    have B3 := Lib.hid (B2.out.trans b3); have K3 := Lib.hid (K2.out.trans k3)
    clear EB3 EB FE HS B2 K2 R3 b3 k3
    go_wp2_with fail
    refine HP.out.mono ?_
    rintro _ w4 ⟨rfl, R4, b4, k4⟩
    have R4 := Lib.hid R4; have B4 := Lib.hid (B3.out.trans b4); have K4 := Lib.hid (K3.out.trans k4)
    clear HP b4 k4 B3 K3 e0 e1 e2 e3 e4 e5
    go_wp2_with fail
    rw [← HQ.out, HH.out]
    exact ⟨_, _, rfl, ⟨j + 1, _, R4.out, rfl, rfl, by rw [H5.out], by rw [H6.out]; simp⟩, B4.out, K4.out⟩
  | false =>
    have H2 := Lib.hid (h2 rfl)
    clear h1 h2
    go_enter Tryz.func125, Tryz.ntmps125
    go_wp2_with fail
    refine (HL.out _).mono ?_
    rintro _ w1 ⟨rfl, b⟩
    have R1 := HR.out.on b
    have B1 := b.mono (Nat.le_of_lt HR.out.lt)
    have K1 := Kp.below HR.out.lt b
    have R2 := Lib.hid (R1.on ((Below.refl w1.heap.size w1).alloc (Nat.le_refl _) (.cells (exC y).toArray 58)))
    have B2 := Lib.hid (B1.trans (((Below.refl w1.heap.size w1).alloc (Nat.le_refl _) (.cells (exC y).toArray 58)).mono (Nat.le_of_lt R1.lt)))
    have K2 := Lib.hid (K1.trans (Kp.below R1.lt ((Below.refl w1.heap.size w1).alloc (Nat.le_refl _) (.cells (exC y).toArray 58))))
    clear b R1 B1 K1 HL HR
    go_wp2_with fail
    rw [← HQ.out, H2.out]
    exact ⟨_, _, rfl, rst_bad R2.out (by decide), B2.out, K2.out⟩
end Go.Proofs.YtdkcdgjpcojdfaaGreatDoor

namespace PTree
open PLex (Tok)
theorem kd_pos {ls : List Tok} {j : Nat} (h : j < ls.length) : kd ls j = ls[j].kind := by unfold kd; rw [List.getElem?_eq_getElem h]
theorem textOf_tx {ls : List Tok} (ht : Toks ls) (j : Nat) {u : List UInt8} (hu : Wd u) : textOf (ls.drop j) = u ↔ tx ls j = u := by
  by_cases hj : j < ls.length
  · rw [List.drop_eq_getElem_cons hj, tx_at hj]
    obtain ⟨lo, _⟩ := ht ls[j] (List.getElem_mem hj)
    obtain ⟨c, r, rfl, hc⟩ := hu
    show (if _ then _ else _) = _ ↔ _
    by_cases hk : ls[j].kind = 1 ∨ ls[j].kind = 5
    · rw [if_pos hk]
    · rw [if_neg hk]
      refine ⟨fun h => (by cases h), fun h => ?_⟩
      exfalso
      rw [h] at lo
      have := lo.num
      rw [if_neg (by rw [hc]; decide)] at this
      exact hk this
  · have hn := hu.ne
    rw [List.drop_of_length_le (by omega)]
    have : tx ls j = [] := by unfold tx; rw [List.getElem?_eq_none (by omega)]
    rw [this]; rfl
theorem must_yes {ls : List Tok} (ht : Toks ls) {en j : Nat} {u : List UInt8} (hu : Wd u) (h : tx ls j = u) : must en u (ls.drop j) = some (.ok (ls.drop (j + 1)) ()) := by
  unfold must; rw [if_pos ((textOf_tx ht j hu).2 h), List.tail_drop]
theorem must_no {ls : List Tok} (ht : Toks ls) {en j : Nat} {u : List UInt8} (hu : Wd u) (h : tx ls j ≠ u) : must en u (ls.drop j) = some (.bad 2 (pl en ls j)) := by
  unfold must; rw [if_neg (fun k => h ((textOf_tx ht j hu).1 k)), pl_drop]
end PTree
namespace Go.Proofs.YtdkcdgjpcojdfaaGreatDoor
open Go.RowKit
open PTree (R Ex Tr Md tx kd pl)
variable {c : Rc} {w w' : World} {j : Nat} {xs : List Ex} {r : Option (R Tr)}

def rclosed (en : Nat) (r : Option (R Tr)) : Option (R Tr) := R.next r fun ts t => R.next (PTree.must en [41] ts) fun t1 _ => some (.ok t1 t)
set_option maxHeartbeats 3200000 in
theorem closed_any (ht : PTree.Toks c.ls) {a er : Int} (h : RSt c xs r a er w) :
    Calls Tryz.prog 124 #[c.p, .int .i64 a, .int .i64 er] w (RAns c xs (rclosed c.en r) w) := by
  obtain ⟨Q, hQ⟩ : ∃ Q, RAns c xs (rclosed c.en r) w = Q := ⟨_, rfl⟩
  rw [hQ]
  have HQ := Lib.hid hQ
  clear hQ
  rcases h.split with ⟨he, _⟩ | ⟨rfl, j, t, rfl, hR, rfl⟩
  · have H := Lib.hid h
    have e1 : (er != 0) = true := by rw [bne_iff_ne]; exact he
    have HE := Lib.hid he
    clear h he
    go_enter Tryz.func124, Tryz.ntmps124
    go_wp2_with fail
    rw [← HQ.out]
    exact ⟨_, _, rfl, H.out.next HE.out _ _, Below.refl _ _, Kp.refl _ _⟩
  · have H := Lib.hid h
    have hw : PTree.Wd [41] := ⟨41, [], rfl, rfl⟩
    clear h
    obtain ⟨A, hA⟩ : ∃ A : Int, ((xs.length + t.size - 1 : Nat) : Int) = A := ⟨_, rfl⟩
    rw [hA] at H ⊢
    have HA := Lib.hid hA
    clear hA
    by_cases hx : tx c.ls j = [41]
    · have HT := Lib.hid (take_yes (u := ⟨#[41]⟩) hR (by decide) hx)
      have HM := Lib.hid (PTree.must_yes (en := c.en) ht hw hx)
      clear hR hx hw
      unfold Rc.p at *
      go_enter Tryz.func124, Tryz.ntmps124
      go_wp2_with fail
      refine HT.out.mono ?_
      rintro _ w1 ⟨rfl, R1, b, k⟩
      have R1 := Lib.hid R1; have B1 := Lib.hid b; have K1 := Lib.hid k
      clear HT b k
      go_wp2_with fail
      rw [← HQ.out]
      refine ⟨_, _, rfl, ⟨j + 1, _, R1.out, ?_⟩, B1.out, K1.out⟩
      show match (R.next (PTree.must c.en [41] (c.ls.drop j)) fun t1 _ => some (R.ok t1 t)) with | none => _ | some (.bad e q) => _ | some (.ok ts t) => _
      rw [HM.out]
      exact ⟨rfl, rfl, rfl, HA.out.symm⟩
    · have HT := Lib.hid (take_no (u := ⟨#[41]⟩) hR hx)
      have HM := Lib.hid (PTree.must_no (en := c.en) ht hw hx)
      have HR := Lib.hid hR
      clear hR hx hw
      unfold Rc.p at *
      go_enter Tryz.func124, Tryz.ntmps124
      go_wp2_with fail
      refine HT.out.mono ?_
      rintro _ _ ⟨rfl, rfl⟩
      clear HT
      go_wp2_with fail
      rw [← HQ.out]
      refine ⟨_, _, rfl, ⟨j, _, HR.out, ?_⟩, Below.refl _ _, Kp.refl _ _⟩
      show match (R.next (PTree.must c.en [41] (c.ls.drop j)) fun t1 _ => some (R.ok t1 t)) with | none => _ | some (.bad e q) => _ | some (.ok ts t) => _
      rw [HM.out]
      exact ⟨rfl, by decide, rfl⟩
theorem run_fn {F : FuncId} {fn : Func} (hf : Tryz.prog.funcs[F]? = some fn) (hn : (fn.name == "runtime.NumGoroutine") = false) (hb : fn.body.isNone = false) (args : Array Value) (w : World) : (callFunc F args).run Tryz.prog w = .ok (.enter F args) w := by
  have h1 : ¬ fn.name = "runtime.NumGoroutine" := by simpa using hn
  have h2 : ¬ fn.body = none := by intro h; rw [h] at hb; cases hb
  unfold callFunc
  simp [go_sem, hf, h1, h2]
set_option maxRecDepth 100000 in
set_option maxHeartbeats 3200000 in
theorem second_any {F : Nat} {d : Int} {ta : Tr} {u : List UInt8} (h : Rd c w j (xs ++ ta.flat xs.length)) (hu : tx c.ls j = u) (hne : u ≠ []) (HE : ∀ args w, (callFunc F args).run Tryz.prog w = .ok (.enter F args) w)
    (HP : ∀ w', Rd c w' (j + 1) (xs ++ ta.flat xs.length) → Calls Tryz.prog F #[c.p, .int .i64 d] w' (RAns c (xs ++ ta.flat xs.length) r w'))
    (hf : ∀ ts t, r = some (.ok ts t) → (xs ++ ta.flat xs.length).length + t.size + 1 ≤ 100000) :
    Calls Tryz.prog 83 #[c.p, .int .i64 ((xs.length + ta.size - 1 : Nat) : Int), .func (.func F) #[c.p] #[], .int .i64 d] w (RAns c xs (R.next r fun ts b => some (.ok ts (.bin u ta b))) w) := by
  obtain ⟨Q, hQ⟩ : ∃ Q, RAns c xs (R.next r fun ts b => some (.ok ts (.bin u ta b))) w = Q := ⟨_, rfl⟩
  rw [hQ]
  have HQ := Lib.hid hQ
  have HS := Lib.hid (skip_any h (PTree.tx_pos (by rw [hu]; exact hne)))
  have HP := Lib.hid HP
  have HF := Lib.hid hf
  obtain ⟨A, hA⟩ : ∃ A : Nat, (xs.length + ta.size - 1 : Nat) = A := ⟨_, rfl⟩
  rw [hA]
  have HA := Lib.hid hA
  obtain ⟨o, n, cp, V, _, _, _, hn0, _, hb, t0, t1, t2⟩ := h.see
  obtain ⟨c0, c1⟩ := box2 hb
  have hsz := hb.1
  have hz := World.block_lt_of_cell? w _ t1
  rw [hu] at t1
  clear hb h hu hne hQ hf hA
  unfold Rc.p at *
  go_enter Tryz.func83, Tryz.ntmps83
  go_wp2_with fail
  refine HS.out.mono ?_
  rintro _ w1 ⟨rfl, R1, b1, k1⟩
  have HC := Lib.hid (HP.out w1 R1)
  have B1 := Lib.hid b1; have K1 := Lib.hid k1
  clear HS R1 b1 k1 HP t0 t1 t2 c0 c1 hsz hz
  go_wp2_with fail
  refine HC.out.mono ?_
  rintro _ w2 ⟨a, er, rfl, st, b2, k2⟩
  have B2 := Lib.hid (B1.out.trans b2); have K2 := Lib.hid (K1.out.trans k2)
  clear HC b2 k2 B1 K1
  rcases st.split with ⟨he, _⟩ | ⟨rfl, j2, tb, rfl, hR, rfl⟩
  · have H := Lib.hid st
    have e1 : (er != 0) = true := by rw [bne_iff_ne]; exact he
    have HE := Lib.hid he
    clear st he
    go_wp2_with fail
    rw [← HQ.out]
    exact ⟨_, _, rfl, H.out.next HE.out _ _, B2.out, K2.out⟩
  · have HP := put_any hR ⟨u, [], 0, A, (xs ++ ta.flat xs.length).length + tb.size - 1, 0⟩ (by have := HF.out _ _ rfl; rw [List.length_append, Tr.flat_len]; omega)
    unfold exC Rc.p at HP
    have HP := Lib.hid HP
    obtain ⟨Bn, hB⟩ : ∃ B : Nat, ((xs ++ ta.flat xs.length).length + tb.size - 1 : Nat) = B := ⟨_, rfl⟩
    rw [hB] at HP ⊢
    have HB := Lib.hid hB
    clear st hR hB
    go_wp2_with fail
    refine HP.out.mono ?_
    rintro _ w3 ⟨rfl, R3, b3, k3⟩
    have R3 := Lib.hid R3; have B3 := Lib.hid (B2.out.trans b3); have K3 := Lib.hid (K2.out.trans k3)
    clear HP b3 k3 B2 K2
    go_wp2_with fail
    rw [← HQ.out]
    refine ⟨_, _, rfl, ⟨j2, _, R3.out, rfl, rfl, ?_, ?_⟩, B3.out, K3.out⟩
    · rw [← HA.out, ← HB.out, List.length_append, Tr.flat_len]
      simp only [Tr.flat, List.append_assoc]
    · rw [Tr.flat_len, Tr.flat_len]
      simp only [Tr.size]
      omega
end Go.Proofs.YtdkcdgjpcojdfaaGreatDoor

namespace PTree
open PLex (Tok)
def partsA (en d : Nat) : List (List UInt8) → List Tr → List Tok → Option (R (List Tr))
  | [], acc, ts => some (.ok ts acc)
  | s :: r, acc, ts => R.next (must en s ts) fun t1 _ => R.next (ex en .whole (d + 1) t1) fun t2 a => partsA en d r (acc ++ [a]) t2
def flatL : List Tr → Nat → List Ex
  | [], _ => []
  | t :: r, o => t.flat o ++ flatL r (o + t.size)
def sizeL (l : List Tr) : Nat := (l.map Tr.size).sum
def posL : List Tr → Nat → List Nat
  | [], _ => []
  | t :: r, o => (o + t.size - 1) :: posL r (o + t.size)
theorem sizeL_snoc (l : List Tr) (t : Tr) : sizeL (l ++ [t]) = sizeL l + t.size := by simp [sizeL]
theorem flatL_len : ∀ (l : List Tr) (o : Nat), (flatL l o).length = sizeL l
  | [], _ => rfl
  | t :: r, o => by simp only [flatL, List.length_append, Tr.flat_len, flatL_len, sizeL, List.map_cons, List.sum_cons]
theorem flatL_snoc : ∀ (l : List Tr) (t : Tr) (o : Nat), flatL (l ++ [t]) o = flatL l o ++ t.flat (o + sizeL l)
  | [], t, o => by simp [flatL, sizeL]
  | s :: r, t, o => by
    simp only [List.cons_append, flatL, flatL_snoc, List.append_assoc, sizeL, List.map_cons, List.sum_cons]
    rw [Nat.add_assoc]
theorem posL_len : ∀ (l : List Tr) (o : Nat), (posL l o).length = l.length
  | [], _ => rfl
  | t :: r, o => by simp only [posL, List.length_cons, posL_len]
theorem posL_snoc : ∀ (l : List Tr) (t : Tr) (o : Nat), posL (l ++ [t]) o = posL l o ++ [o + sizeL l + t.size - 1]
  | [], t, o => by simp [posL, sizeL]
  | s :: r, t, o => by
    simp only [List.cons_append, posL, posL_snoc, sizeL, List.map_cons, List.sum_cons]
    rw [Nat.add_assoc o s.size]
def pos3 (l : List Tr) (o k : Nat) : Nat := (posL l o).getD k 0
theorem pos3_snoc_old {l : List Tr} {t : Tr} {o k : Nat} (h : k ≠ l.length) : pos3 (l ++ [t]) o k = pos3 l o k := by
  unfold pos3
  rw [posL_snoc]
  by_cases hk : k < l.length
  · simp [List.getD, List.getElem?_append_left (show k < (posL l o).length by rw [posL_len]; exact hk)]
  · simp only [List.getD]
    rw [List.getElem?_append_right (by rw [posL_len]; omega), posL_len, List.getElem?_eq_none (l := posL l o) (by rw [posL_len]; omega), List.getElem?_eq_none (by simp; omega)]
theorem pos3_snoc_new {l : List Tr} {t : Tr} {o : Nat} : pos3 (l ++ [t]) o l.length = o + sizeL l + t.size - 1 := by
  unfold pos3
  rw [posL_snoc]
  simp only [List.getD]
  rw [List.getElem?_append_right (by rw [posL_len]; exact Nat.le_refl _), posL_len]; simp
end PTree
namespace Go.Proofs.YtdkcdgjpcojdfaaGreatDoor
open Go.RowKit
open PTree (R Ex Tr Md tx kd pl partsA flatL sizeL pos3)
variable {c : Rc} {w w' : World} {j : Nat} {xs : List Ex}

theorem Fr.set {X o b : Nat} {v : Value} (h : Fr c w b) (hX : X ≠ c.H) : Fr c (w.setCell ⟨X, o, none⟩ v) b :=
  ⟨by simp only [World.size_setCell]; exact h.1, h.2.1, fun V e => h.2.2 V (by rw [World.cell?_setCell_far _ _ _ _ (by exact hX)] at e; exact e)⟩
theorem Rd.set {X o : Nat} {v : Value} (h : Rd c w j xs) (hf : Fr c w X) (hX : c.H < X) : Rd c (w.setCell ⟨X, o, none⟩ v) j xs := by
  obtain ⟨h1, h2, h3, h4, h7, V, h5, h6⟩ := h
  refine ⟨h1, h2.keep ((Below.refl c.H w).setCell (Nat.le_of_lt hX) v) h1, h3, h4, h7, V, h5.far (by exact Nat.ne_of_gt hX) v, ?_⟩
  have hne := hf.2.2 V (h5.c 1 rfl)
  obtain ⟨g1, g2⟩ := h6
  refine ⟨g1, ?_⟩
  rcases g2 with g2 | ⟨g, cap, cur, hv, hg, hh, r⟩
  · exact .inl g2
  · refine .inr ⟨g, cap, cur, hv, hg, ?_, r⟩
    rw [Below.heap_setCell _ _ _ _ (fun e => hne (by rw [hv]; simpa [Value.ownBlock] using e))]; exact hh
theorem rst_fwd {r : Option (R Tr)} {a er : Int} {xs : List Ex} {α : Type} (h : RSt c xs r a er w) (he : er ≠ 0) (k : List PLex.Tok → Tr → Option (R α)) : ∃ j ys e q, Rd c w j ys ∧ R.next r k = some (.bad e q) ∧ er = (e : Nat) ∧ e ≠ 0 ∧ pl c.en c.ls j = q := by
  obtain ⟨j, ys, h1, h2⟩ := h
  cases r with
  | none => exact h2.elim
  | some r =>
    cases r with
    | bad e q => exact ⟨j, ys, e, q, h1, rfl, h2⟩
    | ok ts t => exact absurd h2.1 he
theorem pos3_set {l : List Tr} {t : Tr} {o k : Nat} (hk : l.length = k) (h3 : k < 3) : ([.int .i64 (pos3 l o 0 : Nat), .int .i64 (pos3 l o 1 : Nat), .int .i64 (pos3 l o 2 : Nat)] : List Value).set k (.int .i64 ((o + sizeL l + t.size - 1 : Nat) : Int)) = [.int .i64 (pos3 (l ++ [t]) o 0 : Nat), .int .i64 (pos3 (l ++ [t]) o 1 : Nat), .int .i64 (pos3 (l ++ [t]) o 2 : Nat)] := by
  have hn := PTree.pos3_snoc_new (l := l) (t := t) (o := o)
  have ho : ∀ i, i ≠ l.length → pos3 (l ++ [t]) o i = pos3 l o i := fun i hi => PTree.pos3_snoc_old hi
  subst hk
  have : l.length = 0 ∨ l.length = 1 ∨ l.length = 2 := by omega
  rcases this with h | h | h
  · rw [h] at hn ho ⊢; rw [hn, ho 1 (by omega), ho 2 (by omega)]; rfl
  · rw [h] at hn ho ⊢; rw [hn, ho 0 (by omega), ho 2 (by omega)]; rfl
  · rw [h] at hn ho ⊢; rw [hn, ho 0 (by omega), ho 1 (by omega)]; rfl
def ExprC (c : Rc) (N : Nat) : Prop := ∀ (d j : Nat) (xs : List Ex) (w : World), 10 * (c.ls.length - j) + 9 < N → d ≤ 21 → Rd c w j xs → xs.length + (c.ls.length - j) ≤ 5000 →
  Calls Tryz.prog 55 #[c.p, .int .i64 d] w (RAns c xs (PTree.ex c.en .whole d (c.ls.drop j)) w)
def FAns (c : Rc) (xs : List Ex) (u : List UInt8) (r : Option (R (List Tr))) (w : World) (e : Ending) (w' : World) : Prop :=
  ∃ a er j ys, e = .returned (.tuple #[.int .i64 a, .int .i64 er]) ∧ Below c.H w w' ∧ Kp c w w' ∧ Rd c w' j ys ∧ match r with
    | none => False
    | some (.bad e q) => er = (e : Nat) ∧ e ≠ 0 ∧ pl c.en c.ls j = q
    | some (.ok ts l) => er = 0 ∧ ts = c.ls.drop j ∧ ys = xs ++ flatL l xs.length ++ [⟨u, [], 0, pos3 l xs.length 0, pos3 l xs.length 1, pos3 l xs.length 2⟩] ∧ a = ((xs.length + sizeL l : Nat) : Int)
def strC (ws : List (List UInt8)) : List Value := ws.map (fun s => Value.string ⟨s.toArray⟩)
theorem strC_at {ws : List (List UInt8)} {i : Nat} (h : i < ws.length) : (strC ws)[i]? = some (.string ⟨ws[i].toArray⟩) := by unfold strC; simp [h]
def zeroU (u : ByteArray) : List Value := [.string u, .string ⟨#[]⟩, .int .i64 0, .int .i64 0, .int .i64 0, .int .i64 0]
theorem form_enter (w : World) (t t2 : TypeId) (u : ByteArray) : ∃ w1, (w.alloc (.cells (zeroU u).toArray t)).alloc (.cells #[.int .i64 0, .int .i64 0, .int .i64 0] t2) = w1 ∧ Box w1 w.heap.size (zeroU u) ∧ Box w1 (w.heap.size + 1) [.int .i64 0, .int .i64 0, .int .i64 0] ∧ Below w.heap.size w w1 ∧ w1.heap.size = w.heap.size + 2 :=
  ⟨_, rfl, (Box.new w t (zeroU u)).alloc _, Box.new' _ t2 [.int .i64 0, .int .i64 0, .int .i64 0] (by simp), ((Below.refl _ _).alloc (Nat.le_refl _) _).alloc (by simp) _, by simp⟩
set_option maxRecDepth 100000 in
set_option maxHeartbeats 6400000 in
theorem form_any {N d : Nat} (ht : PTree.Toks c.ls) (IE : ExprC c N) {ws : List (List UInt8)} {W : Nat} {u : List UInt8} (h : Rd c w j xs) (hW : Box w W (strC ws)) (fW : Fr c w W) (hm : ws.length ≤ 3) (hws : ∀ s ∈ ws, PTree.Wd s) (hN : 10 * (c.ls.length - j) ≤ N) (hd : d ≤ 20) (hB : xs.length + (c.ls.length - j) ≤ 5000) :
    Calls Tryz.prog 80 #[c.p, .agg #[.string ⟨u.toArray⟩, .string ⟨#[]⟩, .int .i64 0, .int .i64 0, .int .i64 0, .int .i64 0], .int .i64 d, .slice (some ⟨W, 0, none⟩) ws.length ws.length] w (FAns c xs u (partsA c.en d ws [] (c.ls.drop j)) w) := by
  obtain ⟨Q, hQ⟩ : ∃ Q, FAns c xs u (partsA c.en d ws [] (c.ls.drop j)) w = Q := ⟨_, rfl⟩
  rw [hQ]
  have HQ := Lib.hid hQ
  have HR := Lib.hid h
  have HWB := Lib.hid hW; have FW := Lib.hid fW
  obtain ⟨D, hD⟩ : ∃ D, D = d + 1 := ⟨_, rfl⟩
  have gD : (d : Int) + 1 = (D : Int) := by omega
  have DD := Lib.hid hD
  have HB := Lib.hid hB; have HN := Lib.hid hN; have HWS := Lib.hid hws; have HT := Lib.hid ht; have IE := Lib.hid IE
  have hd9 : (d : Int) ≤ 20 := by omega
  have HD := Lib.hid hd
  obtain ⟨m, hmm⟩ : ∃ m, ws.length = m := ⟨_, rfl⟩
  rw [hmm] at hm ⊢
  have HMM := Lib.hid hmm
  clear hQ h hW fW hD hB hN hws ht hd hmm
  unfold Rc.p
  go_enter Tryz.func80, Tryz.ntmps80
  go_wp2_with fail
  obtain ⟨F, hF⟩ : ∃ F, partsA c.en d ws [] (c.ls.drop j) = F := ⟨_, rfl⟩
  obtain ⟨w1, hw1, XB, PB, b1, hs1⟩ := form_enter w 58 129 ⟨u.toArray⟩
  unfold zeroU at hw1
  rw [hw1]
  have R1 := HR.out.on b1
  have B1 := b1.mono (Nat.le_of_lt HR.out.lt)
  have K1 := Kp.below HR.out.lt b1
  have FX := HR.out.fresh (Nat.le_refl _) (show w.heap.size < w1.heap.size by omega) b1
  have FP := HR.out.fresh (Nat.le_succ _) (show w.heap.size + 1 < w1.heap.size by omega) b1
  have W1 := HWB.out.kp FW.out K1
  have FW1 := (K1 _ FW.out).1
  obtain ⟨L, hL⟩ : ∃ L, w.heap.size = L := ⟨_, rfl⟩
  have hLH : L ≠ c.H ∧ L + 1 ≠ c.H ∧ W ≠ L ∧ W ≠ L + 1 := by
    have := HR.out.lt; have := FW.out.1; omega
  rw [hL] at XB PB FX FP ⊢
  have HLH := Lib.hid hLH; have HL := Lib.hid hL; have HF := Lib.hid hF
  have HR2 := Lib.hid HR.out.lt
  have hm3 : (m : Int) ≤ 3 := by omega
  have I0 : Hid (Rd c w1 j (xs ++ flatL [] xs.length)) := Lib.hid (by simpa [flatL] using R1)
  have I1 : Hid (partsA c.en d (ws.drop 0) [] (c.ls.drop j) = F) := Lib.hid (by rw [List.drop_zero]; exact hF)
  have I2 := Lib.hid K1; have I3 := Lib.hid B1
  have I4 : Hid (Box w1 (L + 1) [.int .i64 (pos3 [] xs.length 0 : Nat), .int .i64 (pos3 [] xs.length 1 : Nat), .int .i64 (pos3 [] xs.length 2 : Nat)]) := Lib.hid PB
  have I5 := Lib.hid FP; have I6 := Lib.hid XB; have I7 := Lib.hid FX; have I8 := Lib.hid W1; have I9 := Lib.hid FW1
  have I10 : Hid (sizeL [] + (c.ls.length - j) ≤ c.ls.length - j ∧ j ≤ j) := Lib.hid (by simp [sizeL])
  clear hw1 hF XB PB b1 hs1 R1 B1 K1 FX FP W1 FW1 hL hLH HWB FW HR
  go_loopw [17] (fun i wr => ∃ (k : Nat) (acc : List Tr) (j' : Nat), k ≤ m ∧ i = .int .i64 k ∧ Hid (acc.length = k) ∧ Hid (Rd c wr j' (xs ++ flatL acc xs.length)) ∧ Hid (partsA c.en d (ws.drop k) acc (c.ls.drop j') = F) ∧ Hid (Kp c w wr) ∧ Hid (Below c.H w wr) ∧ Hid (Box wr (L + 1) [.int .i64 (pos3 acc xs.length 0 : Nat), .int .i64 (pos3 acc xs.length 1 : Nat), .int .i64 (pos3 acc xs.length 2 : Nat)]) ∧ Hid (Fr c wr (L + 1)) ∧ Hid (Box wr L (zeroU ⟨u.toArray⟩)) ∧ Hid (Fr c wr L) ∧ Hid (Box wr W (strC ws)) ∧ Hid (Fr c wr W) ∧ Hid (sizeL acc + (c.ls.length - j') ≤ c.ls.length - j ∧ j ≤ j')) (fun i _ => m - (intOf i).toNat)
  case atStart => exact ⟨0, [], j, Nat.zero_le _, rfl, (show Hid _ from rfl), I0, I1, I2, I3, I4, I5, I6, I7, I8, I9, I10⟩
  case round =>
    clear I0 I1 I2 I3 I4 I5 I6 I7 I8 I9 I10
    obtain ⟨k, acc, j', hk, rfl, HA, I0, I1, I2, I3, I4, I5, I6, I7, I8, I9, I10⟩ := hrel
    by_cases hlt : k < m
    · have hlw : k < ws.length := by rw [HMM.out]; exact hlt
      have w0 := I8.out.c k (strC_at hlw)
      obtain ⟨s, hs⟩ : ∃ s, ws[k] = s := ⟨_, rfl⟩
      rw [hs] at w0
      have hwd : PTree.Wd s := HWS.out s (by rw [← hs]; exact List.getElem_mem hlw)
      have hdr : ws.drop k = s :: ws.drop (k + 1) := by rw [List.drop_eq_getElem_cons hlw, hs]
      have J1 := I1.out
      rw [hdr] at J1
      simp only [partsA] at J1
      have hsz := I8.out.1
      have HWD := Lib.hid hwd
      by_cases hx : tx c.ls j' = s
      · have HTK := Lib.hid (take_yes (u := ⟨s.toArray⟩) I0.out hwd.ne hx)
        have hjl := PTree.tx_pos (by rw [hx]; exact hwd.ne)
        rw [PTree.must_yes HT.out hwd hx] at J1
        replace J1 : R.next (PTree.ex c.en .whole (d + 1) (c.ls.drop (j' + 1))) (fun t2 a => partsA c.en d (ws.drop (k + 1)) (acc ++ [a]) t2) = F := J1
        rw [← DD.out] at J1
        replace J1 := Lib.hid J1
        have HJL := Lib.hid hjl
        clear hwd hdr hs hx I1 hjl hlw
        unfold Rc.p at HTK
        go_wp2_with fail
        refine HTK.out.mono ?_
        rintro _ w2 ⟨rfl, R2, b2, k2⟩
        have HE := IE.out D (j' + 1) (xs ++ flatL acc xs.length) w2 (by have := HN.out; have := I10.out; have := HJL.out; omega) (by have := DD.out; have := HD.out; omega) R2 (by rw [List.length_append, PTree.flatL_len]; have := HB.out; have := I10.out; have := HJL.out; omega)
        unfold Rc.p at HE
        replace HE := Lib.hid HE
        have I2b := Lib.hid (I2.out.trans k2); have I3b := Lib.hid (I3.out.trans b2)
        have I4b := Lib.hid (I4.out.kp I5.out k2); have I5b := Lib.hid (k2 _ I5.out).1
        have I6b := Lib.hid (I6.out.kp I7.out k2); have I7b := Lib.hid (k2 _ I7.out).1
        have I8b := Lib.hid (I8.out.kp I9.out k2); have I9b := Lib.hid (k2 _ I9.out).1
        clear HTK R2 b2 k2 I0 I2 I3 I4 I5 I6 I7 I8 I9 w0 hsz
        go_wp2_with fail
        refine HE.out.mono ?_
        rintro _ w3 ⟨a, er, rfl, st, b3, k3⟩
        have I2 := Lib.hid (I2b.out.trans k3); have I3 := Lib.hid (I3b.out.trans b3)
        have I4 := Lib.hid (I4b.out.kp I5b.out k3); have I5 := Lib.hid (k3 _ I5b.out).1
        have I6 := Lib.hid (I6b.out.kp I7b.out k3); have I7 := Lib.hid (k3 _ I7b.out).1
        have I8 := Lib.hid (I8b.out.kp I9b.out k3); have I9 := Lib.hid (k3 _ I9b.out).1
        clear HE b3 k3 I2b I3b I4b I5b I6b I7b I8b I9b
        rcases st.split with ⟨he, _⟩ | ⟨rfl, j3, t, hr, R3, rfl⟩
        · obtain ⟨j3, ys, e, q, R3, g1, g2, g3, g4⟩ := rst_fwd st he (fun t2 a => partsA c.en d (ws.drop (k + 1)) (acc ++ [a]) t2)
          rw [J1.out] at g1
          have e1 : (er != 0) = true := by rw [bne_iff_ne]; exact he
          have FIN := Lib.hid (And.intro R3 (And.intro g2 (And.intro g3 g4)))
          have HG := Lib.hid g1
          clear st he R3 g1 g2 g3 g4 J1 I4 I5 I6 I7 I8 I9 I10
          go_wp2_with fail
          rw [← HQ.out, HF.out]
          rw [HG.out]
          exact ⟨_, _, j3, ys, rfl, I3.out, I2.out, FIN.out⟩
        · have hfew := PTree.ex_few c.en .whole D (c.ls.drop (j' + 1)) _ _ hr
          have J2 := J1.out
          rw [hr] at J2
          replace J2 : partsA c.en d (ws.drop (k + 1)) (acc ++ [t]) (c.ls.drop j3) = F := J2
          replace J2 := Lib.hid J2
          have R3e : xs ++ flatL (acc ++ [t]) xs.length = xs ++ flatL acc xs.length ++ t.flat (xs ++ flatL acc xs.length).length := by
            rw [PTree.flatL_snoc, List.length_append, PTree.flatL_len, List.append_assoc]
          rw [← R3e] at R3
          have hav : (xs ++ flatL acc xs.length).length + t.size - 1 = xs.length + sizeL acc + t.size - 1 := by rw [List.length_append, PTree.flatL_len]
          have I10n : Hid (sizeL (acc ++ [t]) + (c.ls.length - j3) ≤ c.ls.length - j ∧ j ≤ j3) := Lib.hid (by
            have h3 := R3.le
            have := I10.out; have := HJL.out
            simp only [Md.sz, List.length_drop, Nat.zero_add] at hfew
            rw [PTree.sizeL_snoc]
            omega)
          rw [hav]
          obtain ⟨A, hA⟩ : ∃ A : Int, ((xs.length + sizeL acc + t.size - 1 : Nat) : Int) = A := ⟨_, rfl⟩
          rw [hA]
          have hk3 : (k : Int) < 3 := by omega
          have hk0 : (0 : Int) ≤ (k : Int) := by omega
          obtain ⟨v, hv⟩ : ∃ v, ([.int .i64 (pos3 acc xs.length 0 : Nat), .int .i64 (pos3 acc xs.length 1 : Nat), .int .i64 (pos3 acc xs.length 2 : Nat)] : List Value)[k]? = some v := by
            have : k = 0 ∨ k = 1 ∨ k = 2 := by omega
            rcases this with rfl | rfl | rfl <;> exact ⟨_, rfl⟩
          have p0 := I4.out.c k hv
          have f0 := I4.out.f k hv
          have hps := I4.out.1
          have hb4 := I4.out.set k (by simp; omega) (.int .i64 A)
          rw [← hA, pos3_set HA.out (by omega), hA] at hb4
          have NX : Hid (∀ w4, w4 = w3.setCell ⟨L + 1, k, none⟩ (.int .i64 A) → Rd c w4 j3 (xs ++ flatL (acc ++ [t]) xs.length) ∧ Kp c w w4 ∧ Below c.H w w4 ∧ Box w4 (L + 1) [.int .i64 (pos3 (acc ++ [t]) xs.length 0 : Nat), .int .i64 (pos3 (acc ++ [t]) xs.length 1 : Nat), .int .i64 (pos3 (acc ++ [t]) xs.length 2 : Nat)] ∧ Fr c w4 (L + 1) ∧ Box w4 L (zeroU ⟨u.toArray⟩) ∧ Fr c w4 L ∧ Box w4 W (strC ws) ∧ Fr c w4 W) := Lib.hid (by
            rintro _ rfl
            have hlh := HLH.out
            have hlw := HR2.out
            have hl := HL.out
            exact ⟨R3.set I5.out (by omega), I2.out.set (by omega) hlh.2.1, I3.out.setCell (by show c.H ≤ L + 1; omega) _, hb4, I5.out.set hlh.2.1, I6.out.far (by show L + 1 ≠ L; omega) _, I7.out.set hlh.2.1, I8.out.far (fun e => hlh.2.2.2 e.symm) _, I9.out.set hlh.2.1⟩)
          have HAN : Hid ((acc ++ [t]).length = k + 1) := Lib.hid (by rw [List.length_append, HA.out]; rfl)
          clear st hr hfew J1 R3e R3 hav hA hv hb4 I2 I3 I4 I5 I6 I7 I8 I9 I10
          go_wp2_with fail
          obtain ⟨n1, n2, n3, n4, n5, n6, n7, n8, n9⟩ := NX.out _ rfl
          refine ⟨⟨k + 1, acc ++ [t], j3, by omega, rfl, HAN, n1, J2, n2, n3, n4, n5, n6, n7, n8, n9, I10n⟩, by simp [intOf]; omega⟩
      · have HTK := Lib.hid (take_no (u := ⟨s.toArray⟩) I0.out hx)
        rw [PTree.must_no HT.out hwd hx] at J1
        have HG : Hid (F = some (.bad 2 (pl c.en c.ls j'))) := Lib.hid J1.symm
        clear hwd hdr hs hx I1 hlw J1 I4 I5 I6 I7 I9 I10
        unfold Rc.p at HTK
        go_wp2_with fail
        refine HTK.out.mono ?_
        rintro _ _ ⟨rfl, rfl⟩
        clear HTK
        go_wp2_with fail
        rw [← HQ.out, HF.out, HG.out]
        exact ⟨_, _, j', _, rfl, I3.out, I2.out, I0.out, rfl, by decide, rfl⟩
    · obtain rfl : k = m := by omega
      have J1 := I1.out
      rw [List.drop_of_length_le (by rw [HMM.out]; exact Nat.le_refl _)] at J1
      replace J1 : some (R.ok (c.ls.drop j') acc) = F := J1
      have HG := Lib.hid J1.symm
      clear I1 J1
      obtain ⟨q0, q1, q2⟩ : wr.cell? ⟨L + 1, 0, none⟩ = some (.int .i64 (pos3 acc xs.length 0 : Nat)) ∧ wr.cell? ⟨L + 1, 1, none⟩ = some (.int .i64 (pos3 acc xs.length 1 : Nat)) ∧ wr.cell? ⟨L + 1, 2, none⟩ = some (.int .i64 (pos3 acc xs.length 2 : Nat)) := ⟨I4.out.c 0 rfl, I4.out.c 1 rfl, I4.out.c 2 rfl⟩
      have XB := I6.out
      have hfl : (zeroU ⟨u.toArray⟩)[3]? = some (.int .i64 0) ∧ (zeroU ⟨u.toArray⟩)[4]? = some (.int .i64 0) ∧ (zeroU ⟨u.toArray⟩)[5]? = some (.int .i64 0) := ⟨rfl, rfl, rfl⟩
      unfold zeroU at XB
      obtain ⟨e0, e1, e2, e3, e4, e5⟩ := box6 XB
      obtain ⟨f0, f1, f2, f3, f4, f5⟩ := box6f XB
      have hsx := XB.1
      obtain ⟨y, hy⟩ : ∃ y : Ex, y = ⟨u, [], 0, pos3 acc xs.length 0, pos3 acc xs.length 1, pos3 acc xs.length 2⟩ := ⟨_, rfl⟩
      have NX : Hid (∀ w4, w4 = (((wr.setCell ⟨L, 3, none⟩ (.int .i64 (pos3 acc xs.length 0 : Nat))).setCell ⟨L, 4, none⟩ (.int .i64 (pos3 acc xs.length 1 : Nat))).setCell ⟨L, 5, none⟩ (.int .i64 (pos3 acc xs.length 2 : Nat))).drew → Rd c w4 j' (xs ++ flatL acc xs.length) ∧ Kp c w w4 ∧ Below c.H w w4 ∧ Box w4 L (exC y)) := Lib.hid (by
        rintro _ rfl
        have hlh := HLH.out
        have hr2 := HR2.out
        have hl := HL.out
        have g1 := I0.out.set (o := 3) (v := .int .i64 (pos3 acc xs.length 0 : Nat)) I7.out (by omega)
        have g2 := g1.set (o := 4) (v := .int .i64 (pos3 acc xs.length 1 : Nat)) (I7.out.set hlh.1) (by omega)
        have g3 := g2.set (o := 5) (v := .int .i64 (pos3 acc xs.length 2 : Nat)) ((I7.out.set hlh.1).set hlh.1) (by omega)
        have b3 := ((XB.set 3 (by simp) (.int .i64 (pos3 acc xs.length 0 : Nat))).set 4 (by simp) (.int .i64 (pos3 acc xs.length 1 : Nat))).set 5 (by simp) (.int .i64 (pos3 acc xs.length 2 : Nat))
        have k3 : Kp c w (((wr.setCell ⟨L, 3, none⟩ (.int .i64 (pos3 acc xs.length 0 : Nat))).setCell ⟨L, 4, none⟩ (.int .i64 (pos3 acc xs.length 1 : Nat))).setCell ⟨L, 5, none⟩ (.int .i64 (pos3 acc xs.length 2 : Nat))) := ((I2.out.set (by omega) hlh.1).set (by omega) hlh.1).set (by omega) hlh.1
        have l3 : Below c.H w (((wr.setCell ⟨L, 3, none⟩ (.int .i64 (pos3 acc xs.length 0 : Nat))).setCell ⟨L, 4, none⟩ (.int .i64 (pos3 acc xs.length 1 : Nat))).setCell ⟨L, 5, none⟩ (.int .i64 (pos3 acc xs.length 2 : Nat))) := ((I3.out.setCell (by show c.H ≤ L; omega) _).setCell (by show c.H ≤ L; omega) _).setCell (by show c.H ≤ L; omega) _
        refine ⟨g3, k3, l3.drew, ?_⟩
        rw [hy]; exact b3)
      have HLE : Hid (xs.length + sizeL acc ≤ 5000) := Lib.hid (by have := I10.out; have := HB.out; omega)
      obtain ⟨x0, hx0⟩ : ∃ x, pos3 acc xs.length 0 = x := ⟨_, rfl⟩
      obtain ⟨x1, hx1⟩ : ∃ x, pos3 acc xs.length 1 = x := ⟨_, rfl⟩
      obtain ⟨x2, hx2⟩ : ∃ x, pos3 acc xs.length 2 = x := ⟨_, rfl⟩
      rw [hx0, hx1, hx2] at NX; rw [hx0] at q0; rw [hx1] at q1; rw [hx2] at q2
      have HX0 := Lib.hid hx0; have HX1 := Lib.hid hx1; have HX2 := Lib.hid hx2; have HY := Lib.hid hy
      clear I0 I2 I3 I4 I5 I6 I7 I8 I9 I10 XB hfl hx0 hx1 hx2 hy
      go_wp2_with fail
      go_region
      obtain ⟨w4, hw4⟩ : ∃ w4, (((wr.setCell ⟨L, 3, none⟩ (.int .i64 (x0 : Nat))).setCell ⟨L, 4, none⟩ (.int .i64 (x1 : Nat))).setCell ⟨L, 5, none⟩ (.int .i64 (x2 : Nat))).drew = w4 := ⟨_, rfl⟩
      obtain ⟨R4, K4, B4, E4⟩ := NX.out w4 hw4.symm
      have HP := put_any R4 y (by rw [List.length_append, PTree.flatL_len]; have := HLE.out; omega)
      obtain ⟨g0, g1, g2, g3, g4, g5⟩ := box6 E4
      have hs4 := E4.1
      unfold Rc.p exC at HP
      have HP := Lib.hid HP; have K4 := Lib.hid K4; have B4 := Lib.hid B4
      rw [hw4]
      clear hw4 NX q0 q1 q2 e0 e1 e2 e3 e4 e5 f0 f1 f2 f3 f4 f5 hsx R4 E4
      go_wp2_with fail
      refine HP.out.mono ?_
      rintro _ w5 ⟨rfl, R5, b5, k5⟩
      have R5 := Lib.hid R5; have B5 := Lib.hid (B4.out.trans b5); have K5 := Lib.hid (K4.out.trans k5)
      clear HP b5 k5 B4 K4 g0 g1 g2 g3 g4 g5 hs4
      go_wp2_with fail
      rw [← HQ.out, HF.out, HG.out]
      refine ⟨_, _, j', _, rfl, B5.out, K5.out, R5.out, rfl, rfl, ?_, ?_⟩
      · rw [HY.out, HX0.out, HX1.out, HX2.out]
      · rw [PTree.flatL_len]; omega
end Go.Proofs.YtdkcdgjpcojdfaaGreatDoor

namespace PTree
open PLex (Tok)
theorem next_assoc' {α β γ : Type} (x : Option (R α)) (f : List Tok → α → Option (R β)) (g : List Tok → β → Option (R γ)) : R.next (R.next x f) g = R.next x fun ts a => R.next (f ts a) g := by
  cases x with
  | none => rfl
  | some r => cases r <;> rfl
theorem next_ok' {α β : Type} {x : Option (R α)} {k : List Tok → α → Option (R β)} {ts : List Tok} {b : β} (h : R.next x k = some (.ok ts b)) : ∃ t1 a, x = some (.ok t1 a) ∧ k t1 a = some (.ok ts b) := by
  cases x with
  | none => cases h
  | some r =>
    cases r with
    | bad e p => cases h
    | ok t1 a => exact ⟨t1, a, rfl, h⟩
theorem next_one {α β : Type} (ts : List Tok) (a : α) (k : List Tok → α → Option (R β)) : R.next (some (.ok ts a)) k = k ts a := rfl
theorem partsA_len {en d : Nat} : ∀ {ws : List (List UInt8)} {acc : List Tr} {ts t : List Tok} {l : List Tr}, partsA en d ws acc ts = some (.ok t l) → l.length = acc.length + ws.length
  | [], acc, ts, t, l, h => by cases h; rfl
  | s :: r, acc, ts, t, l, h => by
    simp only [partsA] at h
    obtain ⟨t1, _, _, h1⟩ := next_ok' h
    obtain ⟨t2, _, _, h2⟩ := next_ok' h1
    have := partsA_len h2
    rw [List.length_append] at this
    simp only [List.length_cons, List.length_nil] at this ⊢; omega
def ifW : List (List UInt8) := [[105, 102], [116, 104, 101, 110], [101, 108, 115, 101]]
def minW : List (List UInt8) := [[40], [44]]
def cond3 (l : List Tr) : Tr := .cond (l.getD 0 (.whole 0)) (l.getD 1 (.whole 0)) (l.getD 2 (.whole 0))
def bin2 (op : List UInt8) (l : List Tr) : Tr := .bin op (l.getD 0 (.whole 0)) (l.getD 1 (.whole 0))
theorem ex_deep {en d : Nat} {ts : List Tok} (h : 20 < d) : ex en .whole d ts = some (.bad 9 (placeOf en ts)) := by rw [ex_eq]; simp only [body]; rw [if_pos h]
theorem ex_if {en d : Nat} {ts : List Tok} (h : d ≤ 20) (ht : textOf ts = [105, 102]) : ex en .whole d ts = R.next (partsA en d ifW [] ts) fun t l => some (.ok t (cond3 l)) := by
  rw [ex_eq]
  simp only [body]
  rw [if_neg (by omega), if_pos ht]
  have hm : must en [105, 102] ts = some (.ok ts.tail ()) := by unfold must; rw [if_pos ht]
  simp only [partsA, ifW, hm, next_assoc', next_one]
  rfl
theorem ex_chain0 {en d : Nat} {ts : List Tok} (h : d ≤ 20) (ht : textOf ts ≠ [105, 102]) : ex en .whole d ts = R.next (ex en (.chain 1) d ts) fun t1 a => ex en (.more 0 a) d t1 := by
  rw [ex_eq]
  simp only [body]
  rw [if_neg (by omega), if_neg ht, ex_eq]
  rfl
theorem ex_chain1 (en d : Nat) (ts : List Tok) : ex en (.chain 1) d ts = R.next (ex en (.chain 2) d ts) fun t1 a => ex en (.more 1 a) d t1 := by rw [ex_eq]; rfl
theorem ex_chain2 (en d : Nat) (ts : List Tok) : ex en (.chain 2) d ts = R.next (ex en .factor d ts) fun t1 a => ex en (.more 2 a) d t1 := by
  rw [ex_eq]
  show (R.next (ex en (.chain 3) d ts) fun t1 a => ex en (.more 2 a) d t1) = _
  rw [ex_eq (m := .chain 3)]; rfl
theorem ex_chain3 (en d : Nat) (ts : List Tok) : ex en (.chain 3) d ts = ex en .factor d ts := by rw [ex_eq]; rfl
theorem more_no {en n d : Nat} {a : Tr} {ts : List Tok} (h : textOf ts ∉ level n) : ex en (.more n a) d ts = some (.ok ts a) := by rw [ex_eq]; simp only [body]; rw [if_neg h]
theorem more_yes {en n d : Nat} {a : Tr} {ts : List Tok} (h : textOf ts ∈ level (n + 1)) : ex en (.more (n + 1) a) d ts = R.next (ex en (.chain (n + 2)) d ts.tail) fun t1 b => ex en (.more (n + 1) (.bin (textOf ts) a b)) d t1 := by
  rw [ex_eq]; simp only [body]; rw [if_pos h]; simp
theorem more_first {en d : Nat} {a : Tr} {ts : List Tok} (h : textOf ts ∈ level 0) : ex en (.more 0 a) d ts = R.next (ex en (.chain 1) d ts.tail) fun t1 b => some (.ok t1 (.bin (textOf ts) a b)) := by
  rw [ex_eq]; simp only [body]; rw [if_pos h]; simp
theorem ex_fdeep {en d : Nat} {ts : List Tok} (h : 20 < d) : ex en .factor d ts = some (.bad 9 (placeOf en ts)) := by rw [ex_eq]; simp only [body]; rw [if_pos h]
theorem ex_neg {en d : Nat} {ts : List Tok} (h : d ≤ 20) (ht : textOf ts = [45]) : ex en .factor d ts = R.next (ex en .factor (d + 1) ts.tail) fun t1 a => some (.ok t1 (.neg a)) := by
  rw [ex_eq]; simp only [body]; rw [if_neg (by omega), if_pos ht]
theorem ex_par {en d : Nat} {ts : List Tok} (h : d ≤ 20) (ht : textOf ts = [40]) : ex en .factor d ts = R.next (ex en .whole (d + 1) ts.tail) fun t1 a => R.next (must en [41] t1) fun t2 _ => some (.ok t2 a) := by
  rw [ex_eq]; simp only [body]; rw [if_neg (by omega), if_neg (by rw [ht]; decide), if_pos ht]
theorem ex_min {en d : Nat} {ts : List Tok} (h : d ≤ 20) (ht : textOf ts = [109, 105, 110] ∨ textOf ts = [109, 97, 120]) : ex en .factor d ts = R.next (R.next (partsA en d minW [] ts.tail) fun t l => some (.ok t (bin2 (textOf ts) l))) fun t1 a => R.next (must en [41] t1) fun t2 _ => some (.ok t2 a) := by
  rw [ex_eq]
  simp only [body]
  rw [if_neg (by omega), if_neg (by rcases ht with ht | ht <;> rw [ht] <;> decide), if_neg (by rcases ht with ht | ht <;> rw [ht] <;> decide), if_pos ht]
  simp only [partsA, minW, next_assoc', next_one]
  rfl
theorem ex_leaf {en d j : Nat} {ls : List Tok} (h : d ≤ 20) (h1 : textOf (ls.drop j) ≠ [45]) (h2 : textOf (ls.drop j) ≠ [40]) (h3 : textOf (ls.drop j) ≠ [109, 105, 110]) (h4 : textOf (ls.drop j) ≠ [109, 97, 120]) : ex en .factor d (ls.drop j) = match ls[j]? with
  | none => some (.bad 2 en)
  | some t => match leaf t with
    | none => some (.bad 2 t.at_)
    | some x => some (.ok (ls.drop (j + 1)) x) := by
  rw [ex_eq]
  simp only [body]
  rw [if_neg (by omega), if_neg h1, if_neg h2, if_neg (fun h => h.elim h3 h4)]
  by_cases hj : j < ls.length
  · rw [List.drop_eq_getElem_cons hj, List.getElem?_eq_getElem hj]; rfl
  · rw [List.drop_of_length_le (by omega), List.getElem?_eq_none (by omega)]
theorem lvl_wd {n : Nat} {u : List UInt8} (h : u ∈ level n) : Wd u := by
  match n, h with
  | 0, h =>
    simp only [level, List.mem_cons, List.not_mem_nil, or_false] at h
    rcases h with rfl | rfl | rfl | rfl | rfl | rfl <;> exact ⟨_, _, rfl, rfl⟩
  | 1, h =>
    simp only [level, List.mem_cons, List.not_mem_nil, or_false] at h
    rcases h with rfl | rfl <;> exact ⟨_, _, rfl, rfl⟩
  | n + 2, h =>
    simp only [level, List.mem_cons, List.not_mem_nil, or_false] at h
    subst h; exact ⟨_, _, rfl, rfl⟩
theorem lvl_tx {ls : List Tok} (ht : Toks ls) {n j : Nat} (h : tx ls j ∈ level n) : textOf (ls.drop j) = tx ls j := (textOf_tx ht j (lvl_wd h)).2 rfl
theorem lvl_tx' {ls : List Tok} (ht : Toks ls) {n j : Nat} (h : tx ls j ∉ level n) : textOf (ls.drop j) ∉ level n := fun k => h (by rw [(textOf_tx ht j (lvl_wd k)).1 rfl]; exact k)
end PTree
namespace Go.Proofs.YtdkcdgjpcojdfaaGreatDoor
open Go.RowKit
open PTree (R Ex Tr Md tx kd pl partsA flatL sizeL pos3)
variable {c : Rc} {w w' : World} {j : Nat} {xs : List Ex}

def SumC (c : Rc) (N : Nat) : Prop := ∀ (d j : Nat) (xs : List Ex) (w : World), 10 * (c.ls.length - j) + 7 < N → d ≤ 21 → Rd c w j xs → xs.length + (c.ls.length - j) ≤ 5000 →
  Calls Tryz.prog 81 #[c.p, .int .i64 d] w (RAns c xs (PTree.ex c.en (.chain 1) d (c.ls.drop j)) w)
def ProdC (c : Rc) (N : Nat) : Prop := ∀ (d j : Nat) (xs : List Ex) (w : World), 10 * (c.ls.length - j) + 6 < N → d ≤ 21 → Rd c w j xs → xs.length + (c.ls.length - j) ≤ 5000 →
  Calls Tryz.prog 105 #[c.p, .int .i64 d] w (RAns c xs (PTree.ex c.en (.chain 2) d (c.ls.drop j)) w)
def FactC (c : Rc) (N : Nat) : Prop := ∀ (d j : Nat) (xs : List Ex) (w : World), 10 * (c.ls.length - j) + 4 < N → d ≤ 21 → Rd c w j xs → xs.length + (c.ls.length - j) ≤ 5000 →
  Calls Tryz.prog 118 #[c.p, .int .i64 d] w (RAns c xs (PTree.ex c.en .factor d (c.ls.drop j)) w)
theorem ent_sum (args : Array Value) (w : World) : (callFunc 81 args).run Tryz.prog w = .ok (.enter 81 args) w := run_fn Tryz.func81 (by kernel_rfl) (by kernel_rfl) args w
theorem ent_prod (args : Array Value) (w : World) : (callFunc 105 args).run Tryz.prog w = .ok (.enter 105 args) w := run_fn Tryz.func105 (by kernel_rfl) (by kernel_rfl) args w
theorem ent_fact (args : Array Value) (w : World) : (callFunc 118 args).run Tryz.prog w = .ok (.enter 118 args) w := run_fn Tryz.func118 (by kernel_rfl) (by kernel_rfl) args w
theorem fans_any {u : List UInt8} {r : Option (R (List Tr))} {g : List Tr → Tr} {e : Ending} (h : FAns c xs u r w e w') (hg : ∀ ts l, r = some (.ok ts l) → (g l).flat xs.length = flatL l xs.length ++ [⟨u, [], 0, pos3 l xs.length 0, pos3 l xs.length 1, pos3 l xs.length 2⟩] ∧ (g l).size = sizeL l + 1) : RAns c xs (R.next r fun t l => some (.ok t (g l))) w e w' := by
  obtain ⟨a, er, j, ys, he, hb, hk, hR, hm⟩ := h
  refine ⟨a, er, he, ⟨j, ys, hR, ?_⟩, hb, hk⟩
  cases r with
  | none => exact hm.elim
  | some r =>
    cases r with
    | bad e q => exact hm
    | ok ts l =>
      obtain ⟨g1, g2⟩ := hg _ _ rfl
      obtain ⟨m1, m2, m3, m4⟩ := hm
      refine ⟨m1, m2, ?_, ?_⟩
      · rw [m3, g1, List.append_assoc]
      · rw [m4, g2]; omega
theorem cond_row {l : List Tr} (h : l.length = 3) (o : Nat) : (PTree.cond3 l).flat o = flatL l o ++ [⟨[105, 102], [], 0, pos3 l o 0, pos3 l o 1, pos3 l o 2⟩] ∧ (PTree.cond3 l).size = sizeL l + 1 := by
  match l, h with
  | [a, b, c], _ => simp [PTree.cond3, Tr.flat, flatL, pos3, PTree.posL, sizeL, Tr.size]; omega
theorem bin_row {l : List Tr} {u : List UInt8} (h : l.length = 2) (o : Nat) : (PTree.bin2 u l).flat o = flatL l o ++ [⟨u, [], 0, pos3 l o 0, pos3 l o 1, pos3 l o 2⟩] ∧ (PTree.bin2 u l).size = sizeL l + 1 := by
  match l, h with
  | [a, b], _ => simp [PTree.bin2, Tr.flat, flatL, pos3, PTree.posL, sizeL, Tr.size]
end Go.Proofs.YtdkcdgjpcojdfaaGreatDoor

namespace Go.Proofs.YtdkcdgjpcojdfaaGreatDoor
open Go.RowKit
open PTree (R Ex Tr Md tx kd pl partsA flatL sizeL pos3)
variable {c : Rc} {w w' : World} {j : Nat} {xs : List Ex}

theorem few_at {m : Md} (hm : m.sz = 0) {en d : Nat} {ls : List PLex.Tok} {j : Nat} {ts : List PLex.Tok} {t : Tr} (h : PTree.ex en m d (ls.drop j) = some (.ok ts t)) : t.size + ts.length ≤ ls.length - j := by
  have := PTree.ex_few en m d (ls.drop j) _ _ h
  rw [hm, List.length_drop, Nat.zero_add] at this; exact this
set_option maxRecDepth 100000 in
set_option maxHeartbeats 6400000 in
theorem expr_if {N d : Nat} (ht : PTree.Toks c.ls) (IE : ExprC c N) (h : Rd c w j xs) (hN : 10 * (c.ls.length - j) + 9 < N + 1) (hd : d ≤ 20) (hB : xs.length + (c.ls.length - j) ≤ 5000) (hx : tx c.ls j = [105, 102]) :
    Calls Tryz.prog 55 #[c.p, .int .i64 d] w (RAns c xs (PTree.ex c.en .whole d (c.ls.drop j)) w) := by
  have htx := (PTree.textOf_tx ht j (u := [105, 102]) ⟨_, _, rfl, rfl⟩).2 hx
  rw [PTree.ex_if hd htx]
  obtain ⟨Q, hQ⟩ : ∃ Q, RAns c xs (R.next (partsA c.en d PTree.ifW [] (c.ls.drop j)) fun t l => some (.ok t (PTree.cond3 l))) w = Q := ⟨_, rfl⟩
  rw [hQ]
  have HQ := Lib.hid hQ
  obtain ⟨o, n, cp, V, _, _, _, hn0, _, hb, t0, t1, t2⟩ := h.see
  obtain ⟨c0, c1⟩ := box2 hb
  have hsz := hb.1
  have hz := World.block_lt_of_cell? w _ t1
  rw [hx] at t1
  have b1 : Below w.heap.size w (w.alloc (.cells (strC PTree.ifW).toArray 9)) := (Below.refl _ _).alloc (Nat.le_refl _) _
  have W1 : Box (w.alloc (.cells (strC PTree.ifW).toArray 9)) w.heap.size (strC PTree.ifW) := Box.new w _ _
  have HF := form_any (u := [105, 102]) (d := d) ht IE (h.on b1) W1 (h.fresh (Nat.le_refl _) W1.1 b1) (by decide) (fun s hs => by
    simp only [PTree.ifW, List.mem_cons, List.not_mem_nil, or_false] at hs
    rcases hs with rfl | rfl | rfl <;> exact ⟨_, _, rfl, rfl⟩) (by omega) hd hB
  have HB1 := Lib.hid (b1.mono (Nat.le_of_lt h.lt))
  have HK1 := Lib.hid (Kp.below h.lt b1)
  have g20 : ¬ (20 : Int) < (d : Int) := by omega
  unfold Rc.p at *
  have HF := Lib.hid HF
  clear hb h hx htx hQ hN hB b1 W1 hd
  go_enter Tryz.func55, Tryz.ntmps55
  go_wp2_with fail
  refine HF.out.mono ?_
  rintro e2 w2 h2
  obtain ⟨a, er, rfl, st, b2, k2⟩ := fans_any (g := PTree.cond3) h2 (fun ts l e => cond_row (PTree.partsA_len e) _)
  have ST := Lib.hid st; have B2 := Lib.hid (HB1.out.trans b2); have K2 := Lib.hid (HK1.out.trans k2)
  clear h2 st b2 k2 HF HB1 HK1 c0 c1 t0 t1 t2 hsz hz
  go_wp2_with fail
  rw [← HQ.out]
  exact ⟨_, _, rfl, ST.out, B2.out, K2.out⟩
set_option maxRecDepth 100000 in
set_option maxHeartbeats 6400000 in
theorem expr_deep {d : Nat} (h : Rd c w j xs) (hd : 20 < d) :
    Calls Tryz.prog 55 #[c.p, .int .i64 d] w (RAns c xs (PTree.ex c.en .whole d (c.ls.drop j)) w) := by
  rw [PTree.ex_deep hd, PTree.pl_drop]
  have H := Lib.hid h
  have g20 : (20 : Int) < (d : Int) := by omega
  unfold Rc.p
  clear h hd
  go_enter Tryz.func55, Tryz.ntmps55
  go_wp2_with fail
  go_ret2
  exact ⟨_, _, rfl, rst_bad H.out (by decide), Below.refl _ _, Kp.refl _ _⟩
set_option maxRecDepth 100000 in
set_option maxHeartbeats 6400000 in
theorem expr_sum {N d : Nat} (ht : PTree.Toks c.ls) (IS : SumC c N) (h : Rd c w j xs) (hN : 10 * (c.ls.length - j) + 9 < N + 1) (hd : d ≤ 20) (hB : xs.length + (c.ls.length - j) ≤ 5000) (hx : tx c.ls j ≠ [105, 102]) :
    Calls Tryz.prog 55 #[c.p, .int .i64 d] w (RAns c xs (PTree.ex c.en .whole d (c.ls.drop j)) w) := by
  have htx : PTree.textOf (c.ls.drop j) ≠ [105, 102] := fun k => hx ((PTree.textOf_tx ht j (u := [105, 102]) ⟨_, _, rfl, rfl⟩).1 k)
  rw [PTree.ex_chain0 hd htx]
  obtain ⟨F, hF⟩ : ∃ F, (R.next (PTree.ex c.en (.chain 1) d (c.ls.drop j)) fun t1 a => PTree.ex c.en (.more 0 a) d t1) = F := ⟨_, rfl⟩
  rw [hF]
  obtain ⟨Q, hQ⟩ : ∃ Q, RAns c xs F w = Q := ⟨_, rfl⟩
  rw [hQ]
  have HQ := Lib.hid hQ; have HF := Lib.hid hF
  obtain ⟨o, n, cp, V, _, _, _, hn0, _, hb, t0, t1, t2⟩ := h.see
  obtain ⟨c0, c1⟩ := box2 hb
  have hsz := hb.1
  have hz := World.block_lt_of_cell? w _ t1
  obtain ⟨tb, htb⟩ : ∃ b, ({ data := (tx c.ls j).toArray } : ByteArray) = b := ⟨_, rfl⟩
  have g1 : (tb.toList == [105, 102]) = false := bn (by rw [← htb]; exact hx)
  rw [htb] at t1
  have HS := IS d j xs w (by omega) (by omega) h hB
  have g20 : ¬ (20 : Int) < (d : Int) := by omega
  unfold Rc.p at *
  have HS := Lib.hid HS; have IS := Lib.hid IS; have HN := Lib.hid hN; have HB := Lib.hid hB; have HD := Lib.hid hd; have HT := Lib.hid ht; have HL0 := Lib.hid h.le
  clear hb h hx htx hQ hF hN hB hd htb ht
  go_enter Tryz.func55, Tryz.ntmps55
  go_wp2_with fail
  refine HS.out.mono ?_
  rintro _ w2 ⟨a, er, rfl, st, b2, k2⟩
  have B2 := Lib.hid b2; have K2 := Lib.hid k2
  clear HS b2 k2 t0 t1 t2 c0 c1 hsz hz g1
  rcases st.split with ⟨he, _⟩ | ⟨rfl, j2, t, hr, R2, rfl⟩
  · have FIN : Hid (RSt c xs F a er w2) := Lib.hid (by rw [← HF.out]; exact st.next he _ _)
    have e1 : (er != 0) = true := by rw [bne_iff_ne]; exact he
    clear st he
    go_wp2_with fail
    rw [← HQ.out]
    exact ⟨_, _, rfl, FIN.out, B2.out, K2.out⟩
  · have hsee := R2.see
    obtain ⟨o, n, cp, V, _, _, _, hn0, _, hb, t0, t1, t2⟩ := hsee
    obtain ⟨c0, c1⟩ := box2 hb
    have hsz := hb.1
    have hz := World.block_lt_of_cell? w2 _ t1
    obtain ⟨tb, htb⟩ : ∃ b, ({ data := (tx c.ls j2).toArray } : ByteArray) = b := ⟨_, rfl⟩
    have htl : tb.data.toList = tx c.ls j2 := by rw [← htb]
    have HC := Lib.hid (fun w => cmp_any tb w)
    rw [htl] at HC
    rw [htb] at t1
    have hfew := few_at rfl hr
    have hj2 := R2.le
    rw [List.length_drop] at hfew
    have hFF := HF.out
    rw [hr] at hFF
    replace hFF : PTree.ex c.en (.more 0 t) d (c.ls.drop j2) = F := hFF
    obtain ⟨A, hA⟩ : ∃ A : Nat, (xs.length + t.size - 1 : Nat) = A := ⟨_, rfl⟩
    by_cases hin : tx c.ls j2 ∈ PTree.level 0
    · rw [decide_eq_true hin] at HC
      have htx := PTree.lvl_tx HT.out hin
      rw [PTree.more_first (by rw [htx]; exact hin), List.tail_drop, htx] at hFF
      have hne := (PTree.lvl_wd hin).ne
      have hjl := PTree.tx_pos hne
      have hlen : (xs ++ t.flat xs.length).length = xs.length + t.size := by rw [List.length_append, Tr.flat_len]
      have HS2 := second_any (F := 81) (d := d) (ta := t) (r := PTree.ex c.en (.chain 1) d (c.ls.drop (j2 + 1))) R2 rfl hne ent_sum (fun w' h' => IS.out d (j2 + 1) _ w' (by have := HN.out; omega) (by have := HD.out; omega) h' (by rw [hlen]; have := HB.out; omega)) (fun ts b e => by
        have := few_at rfl e
        rw [hlen]; have := HB.out; omega)
      rw [hFF, hA] at HS2
      rw [hA]
      unfold Rc.p at HS2
      have HS2 := Lib.hid HS2
      clear st hr R2 hb htb htl hfew hj2 hFF hA hin htx hne hjl hlen
      go_wp2_with fail
      refine (HC.out _).mono ?_
      rintro _ _ ⟨rfl, rfl⟩
      go_wp2_with fail
      refine HS2.out.mono ?_
      rintro _ w3 ⟨a, er, rfl, st, b3, k3⟩
      have ST := Lib.hid st; have B3 := Lib.hid (B2.out.trans b3); have K3 := Lib.hid (K2.out.trans k3)
      clear HS2 st b3 k3 B2 K2 t0 t1 t2 c0 c1 hsz hz HC
      go_wp2_with fail
      rw [← HQ.out]
      exact ⟨_, _, rfl, ST.out, B3.out, K3.out⟩
    · rw [decide_eq_false hin] at HC
      rw [PTree.more_no (PTree.lvl_tx' HT.out hin)] at hFF
      have FIN : Hid (RSt c xs F (A : Nat) 0 w2) := Lib.hid (by
        rw [← hFF, ← hA]; exact ⟨j2, _, R2, rfl, rfl, rfl, rfl⟩)
      rw [hA]
      clear st hr R2 hb htb htl hfew hj2 hFF hA hin
      go_wp2_with fail
      refine (HC.out _).mono ?_
      rintro _ _ ⟨rfl, rfl⟩
      go_wp2_with fail
      rw [← HQ.out]
      exact ⟨_, _, rfl, FIN.out, B2.out, K2.out⟩
def leftN (H : Nat) (w : World) : Nat := match w.cell? ⟨H, 0, none⟩ with
  | some (.slice _ n _) => n
  | _ => 0
def leftM (v : Value) (H : Nat) (w : World) : Nat := if intOf v = 0 then leftN H w else 0
theorem leftN_rd (h : Rd c w j xs) : leftN c.H w = c.ls.length + 1 - j := by
  obtain ⟨_, _, _, _, _, V, h5, _⟩ := h
  unfold leftN; rw [h5.c 0 rfl]
set_option maxRecDepth 100000 in
set_option maxHeartbeats 6400000 in
theorem sum_step {N d : Nat} (ht : PTree.Toks c.ls) (IP : ProdC c N) (h : Rd c w j xs) (hN : 10 * (c.ls.length - j) + 7 < N + 1) (hd : d ≤ 21) (hB : xs.length + (c.ls.length - j) ≤ 5000) :
    Calls Tryz.prog 81 #[c.p, .int .i64 d] w (RAns c xs (PTree.ex c.en (.chain 1) d (c.ls.drop j)) w) := by
  obtain ⟨F, hF⟩ : ∃ F, PTree.ex c.en (.chain 1) d (c.ls.drop j) = F := ⟨_, rfl⟩
  rw [hF]
  obtain ⟨Q, hQ⟩ : ∃ Q, RAns c xs F w = Q := ⟨_, rfl⟩
  rw [hQ]
  have HS := IP d j xs w (by omega) hd h hB
  have HF : Hid ((R.next (PTree.ex c.en (.chain 2) d (c.ls.drop j)) fun t1 a => PTree.ex c.en (.more 1 a) d t1) = F) := Lib.hid (by rw [← PTree.ex_chain1]; exact hF)
  have HQ := Lib.hid hQ
  unfold Rc.p at *
  have HS := Lib.hid HS; have IP := Lib.hid IP; have HN := Lib.hid hN; have HB := Lib.hid hB; have HD := Lib.hid hd; have HT := Lib.hid ht; have HJ := Lib.hid h.le
  clear h hF hQ hN hd hB ht
  go_enter Tryz.func81, Tryz.ntmps81
  go_wp2_with fail
  refine HS.out.mono ?_
  rintro _ w2 ⟨a, er, rfl, st, b2, k2⟩
  obtain ⟨r0, hr0⟩ : ∃ r, PTree.ex c.en (.chain 2) d (c.ls.drop j) = r := ⟨_, rfl⟩
  have I5 : Hid (∀ ts t, r0 = some (.ok ts t) → t.size + ts.length ≤ c.ls.length - j) := Lib.hid (fun ts t e => few_at rfl (hr0.trans e))
  rw [hr0] at st HF
  have I1 := Lib.hid st; have I3 := Lib.hid b2; have I4 := Lib.hid k2
  clear HS st b2 k2 hr0
  go_wp2_with fail
  go_loopw [6, 7] (fun va ve wr => ∃ (a er : Int) (r : Option (R Tr)), va = .int .i64 a ∧ ve = .int .i64 er ∧ Hid (RSt c xs r a er wr) ∧ Hid ((R.next r fun t1 a => PTree.ex c.en (.more 1 a) d t1) = F) ∧ Hid (Below c.H w wr) ∧ Hid (Kp c w wr) ∧ Hid (∀ ts t, r = some (.ok ts t) → t.size + ts.length ≤ c.ls.length - j)) (fun _ ve wr => leftM ve c.H wr)
  case atStart => exact ⟨a, er, r0, rfl, rfl, I1, HF, I3, I4, I5⟩
  case round =>
    clear I1 I3 I4 I5 HF
    obtain ⟨a, er, r, rfl, rfl, I1, I2, I3, I4, I5⟩ := hrel
    rcases I1.out.split with ⟨he, e, q, hr⟩ | ⟨rfl, j2, t, hr, R2, rfl⟩
    · have e1 : (er == 0) = false := by rw [beq_eq_false_iff_ne]; exact he
      have hFF := I2.out
      rw [hr] at hFF
      have FIN : Hid (RSt c xs F a er wr) := Lib.hid (by rw [← I2.out]; exact I1.out.next he _ _)
      clear he hr hFF I1 I2 I5
      go_wp2_with fail
      rw [← HQ.out]
      exact ⟨_, _, rfl, FIN.out, I3.out, I4.out⟩
    · have hfew := I5.out _ _ hr
      have hj2 := R2.le
      rw [List.length_drop] at hfew
      have hFF := I2.out
      rw [hr] at hFF
      replace hFF : PTree.ex c.en (.more 1 t) d (c.ls.drop j2) = F := hFF
      have hm0 := leftN_rd R2
      obtain ⟨o, n, cp, V, _, _, _, hn0, _, hb, t0, t1, t2⟩ := R2.see
      obtain ⟨c0, c1⟩ := box2 hb
      have hsz := hb.1
      have hz := World.block_lt_of_cell? wr _ t1
      obtain ⟨tb, htb⟩ : ∃ b, ({ data := (tx c.ls j2).toArray } : ByteArray) = b := ⟨_, rfl⟩
      have htl : tb.data.toList = tx c.ls j2 := by rw [← htb]
      rw [htb] at t1
      obtain ⟨A, hA⟩ : ∃ A : Nat, (xs.length + t.size - 1 : Nat) = A := ⟨_, rfl⟩
      have hlen : (xs ++ t.flat xs.length).length = xs.length + t.size := by rw [List.length_append, Tr.flat_len]
      by_cases hin : tx c.ls j2 ∈ PTree.level 1
      · have htx := PTree.lvl_tx HT.out hin
        rw [PTree.more_yes (n := 0) (by rw [htx]; exact hin), List.tail_drop, htx] at hFF
        have hne := (PTree.lvl_wd hin).ne
        have hjl := PTree.tx_pos hne
        have HS2 := second_any (F := 105) (d := d) (ta := t) (r := PTree.ex c.en (.chain 2) d (c.ls.drop (j2 + 1))) R2 rfl hne ent_prod (fun w' h' => IP.out d (j2 + 1) _ w' (by have := HN.out; omega) HD.out h' (by rw [hlen]; have := HB.out; omega)) (fun ts b e => by
          have := few_at rfl e
          rw [hlen]; have := HB.out; omega)
        rw [hA] at HS2 ⊢
        obtain ⟨rn, hrn⟩ : ∃ r, (R.next (PTree.ex c.en (.chain 2) d (c.ls.drop (j2 + 1))) fun ts b => some (R.ok ts (Tr.bin (tx c.ls j2) t b))) = r := ⟨_, rfl⟩
        have I2n : Hid ((R.next rn fun t1 a => PTree.ex c.en (.more 1 a) d t1) = F) := Lib.hid (by rw [← hrn, PTree.next_assoc']; exact hFF)
        have I5n : Hid (∀ ts t', rn = some (.ok ts t') → t'.size + ts.length ≤ c.ls.length - j ∧ ts.length < c.ls.length - j2) := Lib.hid (fun ts t' e => by
          rw [← hrn] at e
          obtain ⟨t1, b, e1, e2⟩ := PTree.next_ok' e
          cases e2
          have := few_at rfl e1
          have := b.size_pos
          simp only [Tr.size]; omega)
        rw [hrn] at HS2
        unfold Rc.p at HS2
        have HS2 := Lib.hid HS2
        have HM := Lib.hid hm0
        have HJL := Lib.hid hjl
        have gg : (tb.toList == [43]) = true ∨ ((tb.toList == [43]) = false ∧ (tb.toList == [45]) = true) := by
          simp only [PTree.level, List.mem_cons, List.not_mem_nil, or_false] at hin
          by_cases h1 : tb.data.toList = [43]
          · exact .inl (bq h1)
          · refine .inr ⟨bn h1, bq ?_⟩
            rcases hin with h | h
            · exact absurd (htl.trans h) h1
            · exact htl.trans h
        have zz : ((0 : Int) == 0) = true := rfl
        clear hr R2 hb htb htl hfew hj2 hFF hA hin htx hne hjl hlen hrn I1 I2 I5 hm0
        rcases gg with g1 | ⟨g1, g2⟩
        · go_wp2_with fail
          refine HS2.out.mono ?_
          rintro _ w3 ⟨a3, er3, rfl, st3, b3, k3⟩
          have S3 := Lib.hid st3; have B3 := Lib.hid (I3.out.trans b3); have K3 := Lib.hid (I4.out.trans k3)
          have MM : Hid (leftM (.int .i64 er3) c.H w3 < leftM (.int .i64 0) c.H wr) := Lib.hid (by
            show (if er3 = 0 then leftN c.H w3 else 0) < leftN c.H wr
            rw [HM.out]
            have := HJL.out
            rcases st3.split with ⟨he, _⟩ | ⟨rfl, j3, t3, hr3, R3, _⟩
            · rw [if_neg he]; omega
            · rw [if_pos rfl, leftN_rd R3]
              have := (I5n.out _ _ hr3).2
              rw [List.length_drop] at this
              have := R3.le
              omega)
          clear HS2 st3 b3 k3 t0 t1 t2 c0 c1 hsz hz g1 I3 I4
          go_wp2_with fail
          refine ⟨⟨a3, er3, rn, rfl, rfl, S3, I2n, B3, K3, Lib.hid (fun ts t e => (I5n.out ts t e).1)⟩, ?_⟩
          exact MM.out
        · go_wp2_with fail
          refine HS2.out.mono ?_
          rintro _ w3 ⟨a3, er3, rfl, st3, b3, k3⟩
          have S3 := Lib.hid st3; have B3 := Lib.hid (I3.out.trans b3); have K3 := Lib.hid (I4.out.trans k3)
          have MM : Hid (leftM (.int .i64 er3) c.H w3 < leftM (.int .i64 0) c.H wr) := Lib.hid (by
            show (if er3 = 0 then leftN c.H w3 else 0) < leftN c.H wr
            rw [HM.out]
            have := HJL.out
            rcases st3.split with ⟨he, _⟩ | ⟨rfl, j3, t3, hr3, R3, _⟩
            · rw [if_neg he]; omega
            · rw [if_pos rfl, leftN_rd R3]
              have := (I5n.out _ _ hr3).2
              rw [List.length_drop] at this
              have := R3.le
              omega)
          clear HS2 st3 b3 k3 t0 t1 t2 c0 c1 hsz hz g1 I3 I4
          go_wp2_with fail
          refine ⟨⟨a3, er3, rn, rfl, rfl, S3, I2n, B3, K3, Lib.hid (fun ts t e => (I5n.out ts t e).1)⟩, ?_⟩
          exact MM.out
      · rw [PTree.more_no (PTree.lvl_tx' HT.out hin)] at hFF
        have FIN : Hid (RSt c xs F (A : Nat) 0 wr) := Lib.hid (by
          rw [← hFF, ← hA]; exact ⟨j2, _, R2, rfl, rfl, rfl, rfl⟩)
        rw [hA]
        have g1 : (tb.toList == [43]) = false := bn (fun k => hin (by rw [← htl, k]; decide))
        have g2 : (tb.toList == [45]) = false := bn (fun k => hin (by rw [← htl, k]; decide))
        have zz : ((0 : Int) == 0) = true := rfl
        clear hr R2 hb htb htl hfew hj2 hFF hA hin hlen I1 I2 I5 hm0
        go_wp2_with fail
        rw [← HQ.out]
        exact ⟨_, _, rfl, FIN.out, I3.out, I4.out⟩
set_option maxRecDepth 100000 in
set_option maxHeartbeats 6400000 in
theorem prod_step {N d : Nat} (ht : PTree.Toks c.ls) (IP : FactC c N) (h : Rd c w j xs) (hN : 10 * (c.ls.length - j) + 6 < N + 1) (hd : d ≤ 21) (hB : xs.length + (c.ls.length - j) ≤ 5000) :
    Calls Tryz.prog 105 #[c.p, .int .i64 d] w (RAns c xs (PTree.ex c.en (.chain 2) d (c.ls.drop j)) w) := by
  obtain ⟨F, hF⟩ : ∃ F, PTree.ex c.en (.chain 2) d (c.ls.drop j) = F := ⟨_, rfl⟩
  rw [hF]
  obtain ⟨Q, hQ⟩ : ∃ Q, RAns c xs F w = Q := ⟨_, rfl⟩
  rw [hQ]
  have HS := IP d j xs w (by omega) hd h hB
  have HF : Hid ((R.next (PTree.ex c.en .factor d (c.ls.drop j)) fun t1 a => PTree.ex c.en (.more 2 a) d t1) = F) := Lib.hid (by rw [← PTree.ex_chain2]; exact hF)
  have HQ := Lib.hid hQ
  unfold Rc.p at *
  have HS := Lib.hid HS; have IP := Lib.hid IP; have HN := Lib.hid hN; have HB := Lib.hid hB; have HD := Lib.hid hd; have HT := Lib.hid ht; have HJ := Lib.hid h.le
  clear h hF hQ hN hd hB ht
  go_enter Tryz.func105, Tryz.ntmps105
  go_wp2_with fail
  refine HS.out.mono ?_
  rintro _ w2 ⟨a, er, rfl, st, b2, k2⟩
  obtain ⟨r0, hr0⟩ : ∃ r, PTree.ex c.en .factor d (c.ls.drop j) = r := ⟨_, rfl⟩
  have I5 : Hid (∀ ts t, r0 = some (.ok ts t) → t.size + ts.length ≤ c.ls.length - j) := Lib.hid (fun ts t e => few_at rfl (hr0.trans e))
  rw [hr0] at st HF
  have I1 := Lib.hid st; have I3 := Lib.hid b2; have I4 := Lib.hid k2
  clear HS st b2 k2 hr0
  go_wp2_with fail
  go_loopw [6, 7] (fun va ve wr => ∃ (a er : Int) (r : Option (R Tr)), va = .int .i64 a ∧ ve = .int .i64 er ∧ Hid (RSt c xs r a er wr) ∧ Hid ((R.next r fun t1 a => PTree.ex c.en (.more 2 a) d t1) = F) ∧ Hid (Below c.H w wr) ∧ Hid (Kp c w wr) ∧ Hid (∀ ts t, r = some (.ok ts t) → t.size + ts.length ≤ c.ls.length - j)) (fun _ ve wr => leftM ve c.H wr)
  case atStart => exact ⟨a, er, r0, rfl, rfl, I1, HF, I3, I4, I5⟩
  case round =>
    clear I1 I3 I4 I5 HF
    obtain ⟨a, er, r, rfl, rfl, I1, I2, I3, I4, I5⟩ := hrel
    rcases I1.out.split with ⟨he, e, q, hr⟩ | ⟨rfl, j2, t, hr, R2, rfl⟩
    · have e1 : (er == 0) = false := by rw [beq_eq_false_iff_ne]; exact he
      have hFF := I2.out
      rw [hr] at hFF
      have FIN : Hid (RSt c xs F a er wr) := Lib.hid (by rw [← I2.out]; exact I1.out.next he _ _)
      clear he hr hFF I1 I2 I5
      go_wp2_with fail
      rw [← HQ.out]
      exact ⟨_, _, rfl, FIN.out, I3.out, I4.out⟩
    · have hfew := I5.out _ _ hr
      have hj2 := R2.le
      rw [List.length_drop] at hfew
      have hFF := I2.out
      rw [hr] at hFF
      replace hFF : PTree.ex c.en (.more 2 t) d (c.ls.drop j2) = F := hFF
      have hm0 := leftN_rd R2
      obtain ⟨o, n, cp, V, _, _, _, hn0, _, hb, t0, t1, t2⟩ := R2.see
      obtain ⟨c0, c1⟩ := box2 hb
      have hsz := hb.1
      have hz := World.block_lt_of_cell? wr _ t1
      obtain ⟨tb, htb⟩ : ∃ b, ({ data := (tx c.ls j2).toArray } : ByteArray) = b := ⟨_, rfl⟩
      have htl : tb.data.toList = tx c.ls j2 := by rw [← htb]
      rw [htb] at t1
      obtain ⟨A, hA⟩ : ∃ A : Nat, (xs.length + t.size - 1 : Nat) = A := ⟨_, rfl⟩
      have hlen : (xs ++ t.flat xs.length).length = xs.length + t.size := by rw [List.length_append, Tr.flat_len]
      by_cases hin : tx c.ls j2 ∈ PTree.level 2
      · have htx := PTree.lvl_tx HT.out hin
        rw [PTree.more_yes (n := 1) (by rw [htx]; exact hin), List.tail_drop, htx, PTree.ex_chain3] at hFF
        have hne := (PTree.lvl_wd hin).ne
        have hjl := PTree.tx_pos hne
        have HS2 := second_any (F := 118) (d := d) (ta := t) (r := PTree.ex c.en .factor d (c.ls.drop (j2 + 1))) R2 rfl hne ent_fact (fun w' h' => IP.out d (j2 + 1) _ w' (by have := HN.out; omega) HD.out h' (by rw [hlen]; have := HB.out; omega)) (fun ts b e => by
          have := few_at rfl e
          rw [hlen]; have := HB.out; omega)
        rw [hA] at HS2 ⊢
        obtain ⟨rn, hrn⟩ : ∃ r, (R.next (PTree.ex c.en .factor d (c.ls.drop (j2 + 1))) fun ts b => some (R.ok ts (Tr.bin (tx c.ls j2) t b))) = r := ⟨_, rfl⟩
        have I2n : Hid ((R.next rn fun t1 a => PTree.ex c.en (.more 2 a) d t1) = F) := Lib.hid (by rw [← hrn, PTree.next_assoc']; exact hFF)
        have I5n : Hid (∀ ts t', rn = some (.ok ts t') → t'.size + ts.length ≤ c.ls.length - j ∧ ts.length < c.ls.length - j2) := Lib.hid (fun ts t' e => by
          rw [← hrn] at e
          obtain ⟨t1, b, e1, e2⟩ := PTree.next_ok' e
          cases e2
          have := few_at rfl e1
          have := b.size_pos
          simp only [Tr.size]; omega)
        rw [hrn] at HS2
        unfold Rc.p at HS2
        have HS2 := Lib.hid HS2
        have HM := Lib.hid hm0
        have HJL := Lib.hid hjl
        have g1 : (tb.toList == [42]) = true := by
          simp only [PTree.level, List.mem_cons, List.not_mem_nil, or_false] at hin
          exact bq (htl.trans hin)
        have zz : ((0 : Int) == 0) = true := rfl
        clear hr R2 hb htb htl hfew hj2 hFF hA hin htx hne hjl hlen hrn I1 I2 I5 hm0
        go_wp2_with fail
        refine HS2.out.mono ?_
        rintro _ w3 ⟨a3, er3, rfl, st3, b3, k3⟩
        have S3 := Lib.hid st3; have B3 := Lib.hid (I3.out.trans b3); have K3 := Lib.hid (I4.out.trans k3)
        have MM : Hid (leftM (.int .i64 er3) c.H w3 < leftM (.int .i64 0) c.H wr) := Lib.hid (by
          show (if er3 = 0 then leftN c.H w3 else 0) < leftN c.H wr
          rw [HM.out]
          have := HJL.out
          rcases st3.split with ⟨he, _⟩ | ⟨rfl, j3, t3, hr3, R3, _⟩
          · rw [if_neg he]; omega
          · rw [if_pos rfl, leftN_rd R3]
            have := (I5n.out _ _ hr3).2
            rw [List.length_drop] at this
            have := R3.le
            omega)
        clear HS2 st3 b3 k3 t0 t1 t2 c0 c1 hsz hz g1 I3 I4
        go_wp2_with fail
        refine ⟨⟨a3, er3, rn, rfl, rfl, S3, I2n, B3, K3, Lib.hid (fun ts t e => (I5n.out ts t e).1)⟩, ?_⟩
        exact MM.out
      · rw [PTree.more_no (PTree.lvl_tx' HT.out hin)] at hFF
        have FIN : Hid (RSt c xs F (A : Nat) 0 wr) := Lib.hid (by
          rw [← hFF, ← hA]; exact ⟨j2, _, R2, rfl, rfl, rfl, rfl⟩)
        rw [hA]
        have g1 : (tb.toList == [42]) = false := bn (fun k => hin (by rw [← htl, k]; decide))
        have zz : ((0 : Int) == 0) = true := rfl
        clear hr R2 hb htb htl hfew hj2 hFF hA hin hlen I1 I2 I5 hm0
        go_wp2_with fail
        rw [← HQ.out]
        exact ⟨_, _, rfl, FIN.out, I3.out, I4.out⟩
end Go.Proofs.YtdkcdgjpcojdfaaGreatDoor

namespace Go.Proofs.YtdkcdgjpcojdfaaGreatDoor
open Go.RowKit
open PTree (R Ex Tr Md tx kd pl partsA flatL sizeL pos3)
variable {c : Rc} {w w' : World} {j : Nat} {xs : List Ex}

set_option maxRecDepth 100000 in
set_option maxHeartbeats 6400000 in
theorem fact_deep {d : Nat} (h : Rd c w j xs) (hd : 20 < d) :
    Calls Tryz.prog 118 #[c.p, .int .i64 d] w (RAns c xs (PTree.ex c.en .factor d (c.ls.drop j)) w) := by
  rw [PTree.ex_fdeep hd, PTree.pl_drop]
  have H := Lib.hid h
  have g20 : (20 : Int) < (d : Int) := by omega
  unfold Rc.p
  clear h hd
  go_enter Tryz.func118, Tryz.ntmps118
  go_wp2_with fail
  go_ret2
  exact ⟨_, _, rfl, rst_bad H.out (by decide), Below.refl _ _, Kp.refl _ _⟩
theorem fact_see (h : Rd c w j xs) (u : ByteArray) (hu : ({ data := (tx c.ls j).toArray } : ByteArray) = u) : ∃ (o n cp : Nat) (k p : Int) (w1 : World), 0 < n ∧ w.cell? ⟨c.H, 0, none⟩ = some (.slice (some ⟨c.b, o, none⟩) n cp) ∧ w.cell? ⟨c.b, o, none⟩ = some (.int .i64 k) ∧ w.cell? ⟨c.b, o + 1, none⟩ = some (.string u) ∧ w.cell? ⟨c.b, o + 2, none⟩ = some (.int .i64 p) ∧ c.H < w.heap.size ∧ c.b < w.heap.size ∧
    w.alloc (.cells #[.int .i64 k, .string u, .int .i64 p] 82) = w1 ∧ Rd c w1 j xs ∧ Box w1 w.heap.size [.int .i64 k, .string u, .int .i64 p] ∧ Fr c w1 w.heap.size ∧ Below c.H w w1 ∧ Kp c w w1 := by
  obtain ⟨o, n, cp, V, _, _, _, hn0, _, hb, t0, t1, t2⟩ := h.see
  obtain ⟨c0, c1⟩ := box2 hb
  rw [hu] at t1
  have b1 : Below w.heap.size w (w.alloc (.cells #[.int .i64 (kd c.ls j : Nat), .string u, .int .i64 (pl c.en c.ls j : Nat)] 82)) := (Below.refl _ _).alloc (Nat.le_refl _) _
  have B : Box (w.alloc (.cells #[.int .i64 (kd c.ls j : Nat), .string u, .int .i64 (pl c.en c.ls j : Nat)] 82)) w.heap.size [.int .i64 (kd c.ls j : Nat), .string u, .int .i64 (pl c.en c.ls j : Nat)] := Box.new w _ [.int .i64 (kd c.ls j : Nat), .string u, .int .i64 (pl c.en c.ls j : Nat)]
  exact ⟨o, n, cp, _, _, _, hn0, c0, t0, t1, t2, hb.1, World.block_lt_of_cell? w _ t1, rfl, h.on b1, B, h.fresh (Nat.le_refl _) B.1 b1, b1.mono (Nat.le_of_lt h.lt), Kp.below h.lt b1⟩
set_option maxRecDepth 100000 in
set_option maxHeartbeats 6400000 in
theorem fact_neg {N d : Nat} (ht : PTree.Toks c.ls) (IF : FactC c N) (h : Rd c w j xs) (hN : 10 * (c.ls.length - j) + 4 < N + 1) (hd : d ≤ 20) (hB : xs.length + (c.ls.length - j) ≤ 5000) (hx : tx c.ls j = [45]) :
    Calls Tryz.prog 118 #[c.p, .int .i64 d] w (RAns c xs (PTree.ex c.en .factor d (c.ls.drop j)) w) := by
  have htx := (PTree.textOf_tx ht j (u := [45]) ⟨_, _, rfl, rfl⟩).2 hx
  rw [PTree.ex_neg hd htx, List.tail_drop]
  obtain ⟨F, hF⟩ : ∃ F, (R.next (PTree.ex c.en .factor (d + 1) (c.ls.drop (j + 1))) fun t1 a => some (R.ok t1 (Tr.neg a))) = F := ⟨_, rfl⟩
  rw [hF]
  obtain ⟨Q, hQ⟩ : ∃ Q, RAns c xs F w = Q := ⟨_, rfl⟩
  rw [hQ]
  have HQ := Lib.hid hQ; have HF := Lib.hid hF
  have hjl := PTree.tx_pos (ls := c.ls) (j := j) (by rw [hx]; exact List.cons_ne_nil _ _)
  obtain ⟨o, n, cp, k, p, w1, hn0, c0, t0, t1, t2, hsz, hz, hw1, R1, XB, FX, b1, k1⟩ := fact_see h ⟨#[45]⟩ (by rw [hx])
  obtain ⟨D, hD⟩ : ∃ D, D = d + 1 := ⟨_, rfl⟩
  have gD : (d : Int) + 1 = (D : Int) := by omega
  have g20 : ¬ (20 : Int) < (d : Int) := by omega
  have HS := skip_any R1 hjl
  have HI := Lib.hid (fun w' h' => IF D (j + 1) xs w' (by omega) (by omega) h' (by omega))
  rw [← hD] at HF
  have B1 := Lib.hid b1; have K1 := Lib.hid k1
  obtain ⟨x0, x1, x2⟩ := box3 XB
  have hxs := XB.1
  have HB := Lib.hid hB; have HJ := Lib.hid hjl
  unfold Rc.p at *
  have HS := Lib.hid HS; have HD := Lib.hid hD
  clear h hx htx hF hQ hN hB hd ht IF hD b1 k1 R1 XB FX hjl
  go_enter Tryz.func118, Tryz.ntmps118
  go_upto_region 4 with fail
  clear hw1 c0 t0 t1 t2 hz
  go_wp2_with fail
  refine HS.out.mono ?_
  rintro _ w2 ⟨rfl, R2, b2, k2⟩
  have HI2 := Lib.hid (HI.out w2 R2)
  have B2 := Lib.hid (B1.out.trans b2); have K2 := Lib.hid (K1.out.trans k2)
  clear HS HI R2 b2 k2 B1 K1 x0 x1 x2 hxs hsz
  go_wp2_with fail
  refine HI2.out.mono ?_
  rintro _ w3 ⟨a, er, rfl, st, b3, k3⟩
  have B3 := Lib.hid (B2.out.trans b3); have K3 := Lib.hid (K2.out.trans k3)
  clear HI2 b3 k3 B2 K2
  rcases st.split with ⟨he, _⟩ | ⟨rfl, j3, t, hr, R3, rfl⟩
  · have FIN : Hid (RSt c xs F 0 er w3) := Lib.hid (by rw [← HF.out]; exact st.next he _ _)
    have e1 : (er != 0) = true := by rw [bne_iff_ne]; exact he
    clear st he
    go_wp2_with fail
    rw [← HQ.out]
    exact ⟨_, _, rfl, FIN.out, B3.out, K3.out⟩
  · have hfew := few_at rfl hr
    rw [hr] at HF
    obtain ⟨A, hA⟩ : ∃ A : Nat, (xs.length + t.size - 1 : Nat) = A := ⟨_, rfl⟩
    have HP := put_any R3 ⟨[110, 101, 103], [], 0, A, 0, 0⟩ (by rw [List.length_append, Tr.flat_len]; have := HB.out; have := HJ.out; omega)
    rw [hA]
    unfold exC Rc.p at HP
    have HP := Lib.hid HP
    have HA := Lib.hid hA
    clear st hr R3 hfew hA
    go_wp2_with fail
    refine HP.out.mono ?_
    rintro _ w4 ⟨rfl, R4, b4, k4⟩
    have R4 := Lib.hid R4; have B4 := Lib.hid (B3.out.trans b4); have K4 := Lib.hid (K3.out.trans k4)
    clear HP b4 k4 B3 K3
    go_wp2_with fail
    rw [← HQ.out, ← HF.out]
    refine ⟨_, _, rfl, ⟨j3, _, R4.out, rfl, rfl, ?_, ?_⟩, B4.out, K4.out⟩
    · rw [← HA.out]; simp only [Tr.flat, List.append_assoc]
    · rw [Tr.flat_len]; simp only [Tr.size]; omega
set_option maxRecDepth 100000 in
set_option maxHeartbeats 6400000 in
theorem inner_any {N d : Nat} (ht : PTree.Toks c.ls) (IE : ExprC c N) (h : Rd c w j xs) (hN : 10 * (c.ls.length - j) + 4 < N + 1) (hd : d ≤ 20) (hB : xs.length + (c.ls.length - j) ≤ 5000) (hj : j < c.ls.length) :
    Calls Tryz.prog 123 #[c.p, .int .i64 d] w (RAns c xs (rclosed c.en (PTree.ex c.en .whole (d + 1) (c.ls.drop (j + 1)))) w) := by
  obtain ⟨r, hr⟩ : ∃ r, PTree.ex c.en .whole (d + 1) (c.ls.drop (j + 1)) = r := ⟨_, rfl⟩
  rw [hr]
  obtain ⟨D, hD⟩ : ∃ D, D = d + 1 := ⟨_, rfl⟩
  have gD : (d : Int) + 1 = (D : Int) := by omega
  have gd : (d : Int) ≤ 20 := by omega
  have HS := skip_any h hj
  have HI := Lib.hid (fun w' h' => IE D (j + 1) xs w' (by omega) (by omega) h' (by omega))
  rw [hD, hr, ← hD] at HI
  have HT := Lib.hid ht
  unfold Rc.p at *
  have HS := Lib.hid HS
  clear h hN hd hB hj hr IE hD ht
  go_enter Tryz.func123, Tryz.ntmps123
  go_wp2_with fail
  refine HS.out.mono ?_
  rintro _ w2 ⟨rfl, R2, b2, k2⟩
  have HI2 := Lib.hid (HI.out w2 R2)
  have B2 := Lib.hid b2; have K2 := Lib.hid k2
  clear HS HI R2 b2 k2
  go_wp2_with fail
  refine HI2.out.mono ?_
  rintro _ w3 ⟨a, er, rfl, st, b3, k3⟩
  have HC := closed_any HT.out st
  unfold Rc.p at HC
  have HC := Lib.hid HC
  have B3 := Lib.hid (B2.out.trans b3); have K3 := Lib.hid (K2.out.trans k3)
  clear HI2 b3 k3 B2 K2 st
  go_wp2_with fail
  refine HC.out.mono ?_
  rintro _ w4 ⟨a, er, rfl, st, b4, k4⟩
  have ST := Lib.hid st; have B4 := Lib.hid (B3.out.trans b4); have K4 := Lib.hid (K3.out.trans k4)
  clear HC st b4 k4 B3 K3
  go_wp2_with fail
  go_ret2
  exact ⟨_, _, rfl, ST.out, B4.out, K4.out⟩
set_option maxRecDepth 100000 in
set_option maxHeartbeats 6400000 in
theorem fact_par {N d : Nat} (ht : PTree.Toks c.ls) (IE : ExprC c N) (h : Rd c w j xs) (hN : 10 * (c.ls.length - j) + 4 < N + 1) (hd : d ≤ 20) (hB : xs.length + (c.ls.length - j) ≤ 5000) (hx : tx c.ls j = [40]) :
    Calls Tryz.prog 118 #[c.p, .int .i64 d] w (RAns c xs (PTree.ex c.en .factor d (c.ls.drop j)) w) := by
  have htx := (PTree.textOf_tx ht j (u := [40]) ⟨_, _, rfl, rfl⟩).2 hx
  rw [PTree.ex_par hd htx, List.tail_drop]
  have hjl := PTree.tx_pos (ls := c.ls) (j := j) (by rw [hx]; exact List.cons_ne_nil _ _)
  obtain ⟨o, n, cp, k, p, w1, hn0, c0, t0, t1, t2, hsz, hz, hw1, R1, XB, FX, b1, k1⟩ := fact_see h ⟨#[40]⟩ (by rw [hx])
  have g20 : ¬ (20 : Int) < (d : Int) := by omega
  have HS := inner_any ht IE R1 hN hd hB hjl
  unfold rclosed at HS
  obtain ⟨F, hF⟩ : ∃ F, (R.next (PTree.ex c.en .whole (d + 1) (c.ls.drop (j + 1))) fun ts t => R.next (PTree.must c.en [41] ts) fun t1 _ => some (R.ok t1 t)) = F := ⟨_, rfl⟩
  rw [hF] at HS ⊢
  have B1 := Lib.hid b1; have K1 := Lib.hid k1
  obtain ⟨x0, x1, x2⟩ := box3 XB
  have hxs := XB.1
  unfold Rc.p at *
  have HS := Lib.hid HS
  clear h hx htx hN hB hd ht IE b1 k1 R1 XB FX hjl hF
  go_enter Tryz.func118, Tryz.ntmps118
  go_upto_region 4 with fail
  clear hw1 c0 t0 t1 t2 hz
  go_wp2_with fail
  refine HS.out.mono ?_
  rintro _ w2 ⟨a, er, rfl, st, b2, k2⟩
  have ST := Lib.hid st; have B2 := Lib.hid (B1.out.trans b2); have K2 := Lib.hid (K1.out.trans k2)
  clear HS st b2 k2 B1 K1 x0 x1 x2 hxs hsz
  go_wp2_with fail
  go_ret2
  exact ⟨_, _, rfl, ST.out, B2.out, K2.out⟩
set_option maxRecDepth 100000 in
set_option maxHeartbeats 6400000 in
theorem fact_leaf {d : Nat} (ht : PTree.Toks c.ls) (h : Rd c w j xs) (hd : d ≤ 20) (hB : xs.length + (c.ls.length - j) ≤ 5000) (h1 : tx c.ls j ≠ [45]) (h2 : tx c.ls j ≠ [40]) (h3 : tx c.ls j ≠ [109, 105, 110]) (h4 : tx c.ls j ≠ [109, 97, 120]) :
    Calls Tryz.prog 118 #[c.p, .int .i64 d] w (RAns c xs (PTree.ex c.en .factor d (c.ls.drop j)) w) := by
  have hE : PTree.ex c.en .factor d (c.ls.drop j) = rleaf c.en c.ls j := PTree.ex_leaf hd (fun k => h1 ((PTree.textOf_tx ht j (u := [45]) ⟨_, _, rfl, rfl⟩).1 k)) (fun k => h2 ((PTree.textOf_tx ht j (u := [40]) ⟨_, _, rfl, rfl⟩).1 k)) (fun k => h3 ((PTree.textOf_tx ht j (u := [109, 105, 110]) ⟨_, _, rfl, rfl⟩).1 k)) (fun k => h4 ((PTree.textOf_tx ht j (u := [109, 97, 120]) ⟨_, _, rfl, rfl⟩).1 k))
  rw [hE]
  obtain ⟨tb, htb⟩ : ∃ b, ({ data := (tx c.ls j).toArray } : ByteArray) = b := ⟨_, rfl⟩
  have htl : tb.data.toList = tx c.ls j := by rw [← htb]
  obtain ⟨o, n, cp, k, p, w1, hn0, c0, t0, t1, t2, hsz, hz, hw1, R1, XB, FX, b1, k1⟩ := fact_see h tb htb
  have g20 : ¬ (20 : Int) < (d : Int) := by omega
  have g1 : (tb.toList == [45]) = false := bn (by rw [htl]; exact h1)
  have g2 : (tb.toList == [40]) = false := bn (by rw [htl]; exact h2)
  have g3 : (tb.toList == [109, 105, 110]) = false := bn (by rw [htl]; exact h3)
  have g4 : (tb.toList == [109, 97, 120]) = false := bn (by rw [htl]; exact h4)
  have HS := leaf_any ht R1 (by omega)
  have B1 := Lib.hid b1; have K1 := Lib.hid k1
  obtain ⟨x0, x1, x2⟩ := box3 XB
  have hxs := XB.1
  unfold Rc.p at *
  have HS := Lib.hid HS
  clear h hB hd ht b1 k1 R1 XB FX hE htb htl h1 h2 h3 h4
  go_enter Tryz.func118, Tryz.ntmps118
  go_upto_region 4 with fail
  clear hw1 c0 t0 t1 t2 hz
  go_wp2_with fail
  refine HS.out.mono ?_
  rintro _ w2 ⟨a, er, rfl, st, b2, k2⟩
  have ST := Lib.hid st; have B2 := Lib.hid (B1.out.trans b2); have K2 := Lib.hid (K1.out.trans k2)
  clear HS st b2 k2 B1 K1 x0 x1 x2 hxs hsz
  go_wp2_with fail
  go_ret2
  exact ⟨_, _, rfl, ST.out, B2.out, K2.out⟩
set_option maxRecDepth 100000 in
set_option maxHeartbeats 6400000 in
theorem fact_min {N d : Nat} (ht : PTree.Toks c.ls) (IE : ExprC c N) (h : Rd c w j xs) (hN : 10 * (c.ls.length - j) + 4 < N + 1) (hd : d ≤ 20) (hB : xs.length + (c.ls.length - j) ≤ 5000) {u : List UInt8} (hu : u = [109, 105, 110] ∨ u = [109, 97, 120]) (hx : tx c.ls j = u) :
    Calls Tryz.prog 118 #[c.p, .int .i64 d] w (RAns c xs (PTree.ex c.en .factor d (c.ls.drop j)) w) := by
  have hw : PTree.Wd u := by rcases hu with rfl | rfl <;> exact ⟨_, _, rfl, rfl⟩
  have htx := (PTree.textOf_tx ht j hw).2 hx
  rw [PTree.ex_min hd (by rw [htx]; exact hu), List.tail_drop, htx]
  have hjl := PTree.tx_pos (ls := c.ls) (j := j) (by rw [hx]; exact hw.ne)
  obtain ⟨tb, htb⟩ : ∃ b, ({ data := u.toArray } : ByteArray) = b := ⟨_, rfl⟩
  have htl : tb.data.toList = u := by rw [← htb]
  obtain ⟨o, n, cp, k, p, w1, hn0, c0, t0, t1, t2, hsz, hz, hw1, R1, XB, FX, b1, k1⟩ := fact_see h tb (by rw [hx]; exact htb)
  have g20 : ¬ (20 : Int) < (d : Int) := by omega
  have g1 : (tb.toList == [45]) = false := bn (by rw [htl]; rcases hu with rfl | rfl <;> decide)
  have g2 : (tb.toList == [40]) = false := bn (by rw [htl]; rcases hu with rfl | rfl <;> decide)
  have g3 : (tb.toList == [109, 105, 110]) = true ∨ ((tb.toList == [109, 105, 110]) = false ∧ (tb.toList == [109, 97, 120]) = true) := by
    rcases hu with rfl | rfl
    · exact .inl (bq htl)
    · exact .inr ⟨bn (by rw [htl]; decide), bq htl⟩
  have HS := skip_any R1 hjl
  obtain ⟨F, hF⟩ : ∃ F, (R.next (R.next (partsA c.en d PTree.minW [] (c.ls.drop (j + 1))) fun t l => some (R.ok t (PTree.bin2 u l))) fun t1 a => R.next (PTree.must c.en [41] t1) fun t2 _ => some (R.ok t2 a)) = F := ⟨_, rfl⟩
  rw [hF]
  have HF := Lib.hid hF
  have B1 := Lib.hid b1; have K1 := Lib.hid k1; have FX := Lib.hid FX; have XB := Lib.hid XB
  have HR1 := Lib.hid R1.lt
  obtain ⟨x0, x1, x2⟩ := box3 XB.out
  have hxs := XB.out.1
  have hd2 : (d : Int) ≤ 20 := by omega
  have HFM := Lib.hid (fun (w2 : World) (R2 : Rd c w2 (j + 1) xs) => form_any (u := u) (d := d) ht IE (R2.on ((Below.refl w2.heap.size w2).alloc (Nat.le_refl _) (.cells (strC PTree.minW).toArray 9))) (Box.new w2 9 (strC PTree.minW)) (R2.fresh (Nat.le_refl _) (Box.new w2 9 (strC PTree.minW)).1 ((Below.refl w2.heap.size w2).alloc (Nat.le_refl _) _)) (by decide) (fun s hs => by
    simp only [PTree.minW, List.mem_cons, List.not_mem_nil, or_false] at hs
    rcases hs with rfl | rfl <;> exact ⟨_, _, rfl, rfl⟩) (by omega) hd (by omega))
  rw [htb] at HFM
  have HT := Lib.hid ht
  unfold Rc.p at *
  have HS := Lib.hid HS
  clear h hx htx hN hB hd ht IE b1 k1 R1 hjl hF hw hu htb htl
  rcases g3 with g3 | ⟨g3, g4⟩
  all_goals
    go_enter Tryz.func118, Tryz.ntmps118
    go_upto_region 4 with fail
    clear hw1 c0 t0 t1 t2 hz
    go_wp2_with fail
    refine HS.out.mono ?_
    rintro _ w2 ⟨rfl, R2, b2, k2⟩
    have XB2 := XB.out.kp FX.out k2
    clear x0 x1 x2 hxs
    obtain ⟨x0, x1, x2⟩ := box3 XB2
    have hxs := XB2.1
    have hFM := HFM.out w2 R2
    have B2 := Lib.hid (B1.out.trans b2); have K2 := Lib.hid (K1.out.trans k2)
    have HR2 := Lib.hid R2.lt
    have hstr : (Obj.cells (strC PTree.minW).toArray 9) = .cells #[.string { data := #[40] }, .string { data := #[44] }] 9 := rfl
    rw [hstr, show PTree.minW.length = 2 from rfl] at hFM
    have HFM2 := Lib.hid hFM
    clear HS HFM R2 b2 k2 B1 K1 XB2 XB FX hFM hstr HR1
    go_wp2_with fail
    refine HFM2.out.mono ?_
    rintro _ w3 h3
    obtain ⟨a, er, rfl, st, b3, k3⟩ := fans_any (g := PTree.bin2 u) h3 (fun ts l e => bin_row (PTree.partsA_len e) _)
    have hb0 := (Below.refl w2.heap.size w2).alloc (Nat.le_refl _) (.cells #[.string { data := #[40] }, .string { data := #[44] }] 9)
    have B3 := Lib.hid ((B2.out.trans (hb0.mono (Nat.le_of_lt HR2.out))).trans b3); have K3 := Lib.hid ((K2.out.trans (Kp.below HR2.out hb0)).trans k3)
    have HC := closed_any HT.out st
    unfold rclosed at HC
    rw [HF.out] at HC
    unfold Rc.p at HC
    have HC := Lib.hid HC
    clear HFM2 h3 st b3 k3 B2 K2 x0 x1 x2 hxs hb0 HR2
    go_wp2_with fail
    refine HC.out.mono ?_
    rintro _ w4 ⟨a, er, rfl, st, b4, k4⟩
    have ST := Lib.hid st; have B4 := Lib.hid (B3.out.trans b4); have K4 := Lib.hid (K3.out.trans k4)
    clear HC st b4 k4 B3 K3
    go_wp2_with fail
    go_ret2
    exact ⟨_, _, rfl, ST.out, B4.out, K4.out⟩
theorem fact_step {N d : Nat} (ht : PTree.Toks c.ls) (IE : ExprC c N) (IF : FactC c N) (h : Rd c w j xs) (hN : 10 * (c.ls.length - j) + 4 < N + 1) (hB : xs.length + (c.ls.length - j) ≤ 5000) :
    Calls Tryz.prog 118 #[c.p, .int .i64 d] w (RAns c xs (PTree.ex c.en .factor d (c.ls.drop j)) w) := by
  by_cases hd : 20 < d
  · exact fact_deep h hd
  by_cases h1 : tx c.ls j = [45]
  · exact fact_neg ht IF h hN (by omega) hB h1
  by_cases h2 : tx c.ls j = [40]
  · exact fact_par ht IE h hN (by omega) hB h2
  by_cases h3 : tx c.ls j = [109, 105, 110]
  · exact fact_min ht IE h hN (by omega) hB (.inl rfl) h3
  by_cases h4 : tx c.ls j = [109, 97, 120]
  · exact fact_min ht IE h hN (by omega) hB (.inr rfl) h4
  exact fact_leaf ht h (by omega) hB h1 h2 h3 h4
theorem expr_step {N d : Nat} (ht : PTree.Toks c.ls) (IE : ExprC c N) (IS : SumC c N) (h : Rd c w j xs) (hN : 10 * (c.ls.length - j) + 9 < N + 1) (hB : xs.length + (c.ls.length - j) ≤ 5000) :
    Calls Tryz.prog 55 #[c.p, .int .i64 d] w (RAns c xs (PTree.ex c.en .whole d (c.ls.drop j)) w) := by
  by_cases hd : 20 < d
  · exact expr_deep h hd
  by_cases h1 : tx c.ls j = [105, 102]
  · exact expr_if ht IE h hN (by omega) hB h1
  · exact expr_sum ht IS h hN (by omega) hB h1
theorem tree_all {c : Rc} (ht : PTree.Toks c.ls) : ∀ N, ExprC c N ∧ SumC c N ∧ ProdC c N ∧ FactC c N
  | 0 => ⟨fun _ _ _ _ h => by omega, fun _ _ _ _ h => by omega, fun _ _ _ _ h => by omega, fun _ _ _ _ h => by omega⟩
  | N + 1 => by
    obtain ⟨h1, h2, h3, h4⟩ := tree_all ht N
    exact ⟨fun d j xs w hN _ hR hB => expr_step ht h1 h2 hR hN hB, fun d j xs w hN hd hR hB => sum_step ht h3 hR hN hd hB, fun d j xs w hN hd hR hB => prod_step ht h4 hR hN hd hB, fun d j xs w hN _ hR hB => fact_step ht h1 h4 hR hN hB⟩
theorem expr_any {c : Rc} (ht : PTree.Toks c.ls) {d j : Nat} {xs : List Ex} {w : World} (hd : d ≤ 21) (h : Rd c w j xs) (hB : xs.length + (c.ls.length - j) ≤ 5000) :
    Calls Tryz.prog 55 #[c.p, .int .i64 d] w (RAns c xs (PTree.ex c.en .whole d (c.ls.drop j)) w) := (tree_all ht (10 * (c.ls.length - j) + 10)).1 d j xs w (by omega) hd h hB
end Go.Proofs.YtdkcdgjpcojdfaaGreatDoor

namespace PTree
open PLex (Tok)
def rule1 (en cnt : Nat) (ls : List Tok) (j : Nat) : Option (R Rl) :=
  if tx ls j ∉ kinds then some (.bad 2 (pl en ls j))
  else if 59 < cnt then some (.bad 9 (pl en ls j))
  else if kd ls (j + 1) ≠ 1 ∨ tx ls (j + 1) ∈ takenL then some (.bad 2 (pl en ls (j + 1)))
  else R.next (must en [61] (ls.drop (j + 2))) fun t1 _ => R.next (ex en .whole 1 t1) fun t2 x => R.next (must en [59] t2) fun t3 _ => some (.ok t3 ⟨tx ls j, tx ls (j + 1), x⟩)
theorem kinds_wd {u : List UInt8} (h : u ∈ kinds) : Wd u := by
  simp only [kinds, List.mem_cons, List.not_mem_nil, or_false] at h
  rcases h with rfl | rfl | rfl | rfl <;> exact ⟨_, _, rfl, rfl⟩
theorem rules_step {ls : List Tok} (ht : Toks ls) {en cnt j : Nat} (hj : j < ls.length) : rules en cnt (ls.drop j) = R.next (rule1 en cnt ls j) fun t r => R.next (rules en (cnt + 1) t) fun t4 rs => some (.ok t4 (r :: rs)) := by
  have hd : ls.drop j = ls[j] :: ls.drop (j + 1) := List.drop_eq_getElem_cons hj
  have hk : textOf (ls[j] :: ls.drop (j + 1)) ∈ kinds ↔ tx ls j ∈ kinds := by
    rw [← hd]
    refine ⟨fun h => ?_, fun h => ?_⟩
    · rw [(textOf_tx ht j (kinds_wd h)).1 rfl]; exact h
    · rw [(textOf_tx ht j (kinds_wd h)).2 rfl]; exact h
  have hp : pl en ls j = ls[j].at_ := by unfold pl; rw [List.getElem?_eq_getElem hj]
  rw [hd, rules_cons]
  unfold rule1
  rw [hp]
  by_cases h1 : tx ls j ∉ kinds
  · rw [if_pos h1, if_pos (fun k => h1 (hk.1 k))]; rfl
  · rw [if_neg h1, if_neg (fun k => h1 (fun h => k (hk.2 h)))]
    by_cases h2 : 59 < cnt
    · rw [if_pos h2, if_pos h2]; rfl
    · rw [if_neg h2, if_neg h2]
      have htx : textOf (ls[j] :: ls.drop (j + 1)) = tx ls j := by
        rw [← hd]; exact (textOf_tx ht j (kinds_wd (Classical.not_not.1 h1))).2 rfl
      rw [htx]
      by_cases hj1 : j + 1 < ls.length
      · rw [List.drop_eq_getElem_cons hj1]
        have e1 : kd ls (j + 1) = ls[j + 1].kind := kd_pos hj1
        have e2 : tx ls (j + 1) = ls[j + 1].text := tx_at hj1
        have e3 : pl en ls (j + 1) = ls[j + 1].at_ := by unfold pl; rw [List.getElem?_eq_getElem hj1]
        rw [e1, e2, e3]
        simp only []
        by_cases h3 : ls[j + 1].kind ≠ 1 ∨ ls[j + 1].text ∈ takenL
        · rw [if_pos h3, if_pos h3]; rfl
        · rw [if_neg h3, if_neg h3]
          simp only [next_assoc', next_one]
      · have e0 : ls[j + 1]? = none := List.getElem?_eq_none (by omega)
        have e1 : kd ls (j + 1) = 0 := by unfold kd; rw [e0]
        have e3 : pl en ls (j + 1) = en := by unfold pl; rw [e0]
        rw [List.drop_of_length_le (by omega), e1, e3, if_pos (.inl (by decide))]; rfl
end PTree
namespace Go.Proofs.YtdkcdgjpcojdfaaGreatDoor
open Go.RowKit
open PTree (R Ex Tr Md Rl Row tx kd pl rule1)
variable {c : Rc} {w w' : World} {j : Nat} {xs : List Ex}

def UAns (c : Rc) (xs : List Ex) (r : Option (R Rl)) (w : World) (e : Ending) (w' : World) : Prop :=
  ∃ (y : Row) (er : Int) (j : Nat) (ys : List Ex), e = .returned (.tuple #[.agg (rowC y).toArray, .int .i64 er]) ∧ Below c.H w w' ∧ Kp c w w' ∧ Rd c w' j ys ∧ match r with
    | none => False
    | some (.bad e q) => er = (e : Nat) ∧ e ≠ 0 ∧ pl c.en c.ls j = q
    | some (.ok ts x) => er = 0 ∧ ts = c.ls.drop j ∧ ys = xs ++ x.tree.flat xs.length ∧ y = ⟨x.kind, x.name, xs.length + x.tree.size - 1⟩
theorem box3f {H : Nat} {a b d : Value} (h : Box w H [a, b, d]) : w.frozen? ⟨H, 0, none⟩ = false ∧ w.frozen? ⟨H, 1, none⟩ = false ∧ w.frozen? ⟨H, 2, none⟩ = false := ⟨h.f 0 rfl, h.f 1 rfl, h.f 2 rfl⟩
theorem store3 {w0 : World} {H : Nat} {a b d : Value} (h : Box w H [a, b, d]) (hf : Fr c w H) (hH : c.H < H) (h0 : w0.heap.size ≤ H) (hk : Kp c w0 w) (hB : Below c.H w0 w) (hR : Rd c w j xs) (a' b' d' : Value) :
    ∃ w', ((w.setCell ⟨H, 0, none⟩ a').setCell ⟨H, 1, none⟩ b').setCell ⟨H, 2, none⟩ d' = w' ∧ Box w' H [a', b', d'] ∧ Kp c w0 w' ∧ Below c.H w0 w' ∧ Rd c w' j xs :=
  ⟨_, rfl, ((h.set 0 (by simp) a').set 1 (by simp) b').set 2 (by simp) d', ((hk.set h0 (Nat.ne_of_gt hH)).set h0 (Nat.ne_of_gt hH)).set h0 (Nat.ne_of_gt hH), ((hB.setCell (Nat.le_of_lt hH) _).setCell (Nat.le_of_lt hH) _).setCell (Nat.le_of_lt hH) _,
    ((hR.set hf hH).set (hf.set (Nat.ne_of_gt hH)) hH).set ((hf.set (Nat.ne_of_gt hH)).set (Nat.ne_of_gt hH)) hH⟩
def zeroR : List Value := [.string ⟨#[]⟩, .string ⟨#[]⟩, .int .i64 0]
theorem rule_enter (h : Rd c w j xs) : ∃ w1, w.alloc (.cells #[.string ⟨#[]⟩, .string ⟨#[]⟩, .int .i64 0] 60) = w1 ∧ Box w1 w.heap.size zeroR ∧ Fr c w1 w.heap.size ∧ c.H < w.heap.size ∧ Kp c w w1 ∧ Below c.H w w1 ∧ Rd c w1 j xs := by
  have b1 : Below w.heap.size w (w.alloc (.cells #[.string ⟨#[]⟩, .string ⟨#[]⟩, .int .i64 0] 60)) := (Below.refl _ _).alloc (Nat.le_refl _) _
  have X1 : Box (w.alloc (.cells #[.string ⟨#[]⟩, .string ⟨#[]⟩, .int .i64 0] 60)) w.heap.size zeroR := Box.new w _ zeroR
  exact ⟨_, rfl, X1, h.fresh (Nat.le_refl _) X1.1 b1, h.lt, Kp.below h.lt b1, b1.mono (Nat.le_of_lt h.lt), h.on b1⟩
set_option maxRecDepth 100000 in
set_option maxHeartbeats 6400000 in
theorem rule_kind {cnt : Nat} (h : Rd c w j xs) (hk : tx c.ls j ∉ PTree.kinds) :
    Calls Tryz.prog 29 #[c.p, .int .i64 cnt] w (UAns c xs (rule1 c.en cnt c.ls j) w) := by
  have hr : rule1 c.en cnt c.ls j = some (.bad 2 (pl c.en c.ls j)) := by unfold rule1; rw [if_pos hk]
  rw [hr]
  obtain ⟨tb, htb⟩ : ∃ b, ({ data := (tx c.ls j).toArray } : ByteArray) = b := ⟨_, rfl⟩
  have HK := Lib.hid (fun w => isrk_any tb w)
  rw [show tb.data.toList = tx c.ls j by rw [← htb], decide_eq_false hk] at HK
  obtain ⟨w1, hw1, X1, F1, hH, k1, b1, R1⟩ := rule_enter h
  obtain ⟨o, n, cp, V, _, _, _, hn0, _, hb, t0, t1, t2⟩ := R1.see
  obtain ⟨c0, c1⟩ := box2 hb
  have hsz := hb.1
  have hz := World.block_lt_of_cell? w1 _ t1
  rw [htb] at t1
  obtain ⟨w2, hw2, X2, k2, b2, R2⟩ := store3 X1 F1 hH (Nat.le_refl _) k1 b1 R1 (.string ⟨#[]⟩) (.string ⟨#[]⟩) (.int .i64 0)
  unfold zeroR at X1
  obtain ⟨e0, e1, e2⟩ := box3 X1
  obtain ⟨f0, f1, f2⟩ := box3f X1
  obtain ⟨q0, q1, q2⟩ := box3 X2
  rw [← hw2] at q0 q1 q2
  have hs1 := X1.1
  have HW2 := Lib.hid hw2; have K2 := Lib.hid k2; have B2 := Lib.hid b2; have R2 := Lib.hid R2
  clear hw2 k2 b2 X2 X1 F1 k1 b1 R1 hb htb hk hr h
  unfold Rc.p
  go_enter Tryz.func29, Tryz.ntmps29
  go_upto_region 1 with fail
  clear hw1
  go_wp2_with fail
  refine (HK.out _).mono ?_
  rintro _ _ ⟨rfl, rfl⟩
  go_wp2_with fail
  (try simp only [Exit.inBlock, Exit.then])
  refine bodyPost_ret (by simp [results, Tryz.results29, go_sem, q0, q1, q2]; try rfl) rfl ?_
  rw [HW2.out]
  exact ⟨⟨[], [], 0⟩, 2, j, xs, rfl, B2.out, K2.out, R2.out, rfl, by decide, rfl⟩
set_option maxRecDepth 100000 in
set_option maxHeartbeats 6400000 in
theorem rule_many {cnt : Nat} (h : Rd c w j xs) (hk : tx c.ls j ∈ PTree.kinds) (hc : 59 < cnt) (hc2 : cnt ≤ 100000) :
    Calls Tryz.prog 29 #[c.p, .int .i64 cnt] w (UAns c xs (rule1 c.en cnt c.ls j) w) := by
  have hr : rule1 c.en cnt c.ls j = some (.bad 9 (pl c.en c.ls j)) := by unfold rule1; rw [if_neg (fun k => k hk), if_pos hc]
  obtain ⟨Q, hQ⟩ : ∃ Q, UAns c xs (rule1 c.en cnt c.ls j) w = Q := ⟨_, rfl⟩
  rw [hQ]
  have HQ := Lib.hid hQ; have HR := Lib.hid hr
  obtain ⟨tb, htb⟩ : ∃ b, ({ data := (tx c.ls j).toArray } : ByteArray) = b := ⟨_, rfl⟩
  have HK := Lib.hid (fun w => isrk_any tb w)
  rw [show tb.data.toList = tx c.ls j by rw [← htb], decide_eq_true hk] at HK
  obtain ⟨w1, hw1, X1, F1, hH, k1, b1, R1⟩ := rule_enter h
  obtain ⟨P, hP⟩ : ∃ P, w.heap.size = P := ⟨_, rfl⟩
  rw [hP] at X1 F1 hH
  have HH := Lib.hid hH; have HPW := Lib.hid hP
  obtain ⟨o, n, cp, V, _, _, _, hn0, _, hb, t0, t1, t2⟩ := R1.see
  obtain ⟨c0, c1⟩ := box2 hb
  have hsz := hb.1
  have hz := World.block_lt_of_cell? w1 _ t1
  rw [htb] at t1
  unfold zeroR at X1
  have gc : (60 : Int) ≤ (cnt : Int) := by omega
  obtain ⟨wz, hwz, XZ, kz, bz, RZ⟩ := store3 X1 F1 HH.out (Nat.le_of_eq HPW.out) k1 b1 R1 (.string ⟨#[]⟩) (.string ⟨#[]⟩) (.int .i64 0)
  obtain ⟨e0, e1, e2⟩ := box3 X1
  obtain ⟨f0, f1, f2⟩ := box3f X1
  obtain ⟨q0, q1, q2⟩ := box3 XZ
  rw [← hwz] at q0 q1 q2
  have hsP := (X1).1
  have HWZ := Lib.hid hwz; have KZ := Lib.hid kz; have BZ := Lib.hid bz; have RZ := Lib.hid RZ
  clear hwz kz bz XZ
  clear X1 F1 k1 b1 R1 hb htb hk hr h hQ hc hH
  unfold Rc.p
  go_enter Tryz.func29, Tryz.ntmps29
  go_upto_region 1 with fail
  (try rw [hP])
  clear hw1 hP
  go_wp2_with fail
  refine (HK.out _).mono ?_
  rintro _ _ ⟨rfl, rfl⟩
  go_wp2_with fail
  (try simp only [Exit.inBlock, Exit.then])
  refine bodyPost_ret (by simp [results, Tryz.results29, go_sem, q0, q1, q2]; try rfl) rfl ?_
  rw [HWZ.out, ← HQ.out, HR.out]
  exact ⟨⟨[], [], 0⟩, 9, j, _, rfl, BZ.out, KZ.out, RZ.out, rfl, by decide, rfl⟩
set_option maxRecDepth 100000 in
set_option maxHeartbeats 6400000 in
theorem rule_rest {cnt : Nat} (ht : PTree.Toks c.ls) (h : Rd c w j xs) (hk : tx c.ls j ∈ PTree.kinds) (hc : cnt ≤ 59) (hB : xs.length + (c.ls.length - j) ≤ 5000) :
    Calls Tryz.prog 29 #[c.p, .int .i64 cnt] w (UAns c xs (rule1 c.en cnt c.ls j) w) := by
  obtain ⟨F, hF⟩ : ∃ F, rule1 c.en cnt c.ls j = F := ⟨_, rfl⟩
  rw [hF]
  unfold rule1 at hF
  rw [if_neg (fun k => k hk), if_neg (by omega)] at hF
  obtain ⟨Q, hQ⟩ : ∃ Q, UAns c xs F w = Q := ⟨_, rfl⟩
  rw [hQ]
  have HQ := Lib.hid hQ
  obtain ⟨tb, htb⟩ : ∃ b, ({ data := (tx c.ls j).toArray } : ByteArray) = b := ⟨_, rfl⟩
  have HK := Lib.hid (fun w => isrk_any tb w)
  rw [show tb.data.toList = tx c.ls j by rw [← htb], decide_eq_true hk] at HK
  have hjl := PTree.tx_pos (PTree.kinds_wd hk).ne
  obtain ⟨w1, hw1, X1, F1, hH, k1, b1, R1⟩ := rule_enter h
  obtain ⟨P, hP⟩ : ∃ P, w.heap.size = P := ⟨_, rfl⟩
  rw [hP] at X1 F1 hH
  have HH := Lib.hid hH; have HPW := Lib.hid hP
  obtain ⟨o, n, cp, V, _, _, _, hn0, _, hb, t0, t1, t2⟩ := R1.see
  obtain ⟨c0, c1⟩ := box2 hb
  have hsz := hb.1
  have hz := World.block_lt_of_cell? w1 _ t1
  rw [htb] at t1
  unfold zeroR at X1
  have gc : ¬ (60 : Int) ≤ (cnt : Int) := by omega
  have HS := skip_any R1 hjl
  unfold Rc.p at *
  have HS := Lib.hid HS
  have X1 := Lib.hid X1; have F1 := Lib.hid F1; have K1 := Lib.hid k1; have B1 := Lib.hid b1
  have HJ := Lib.hid hjl; have HB := Lib.hid hB; have HT := Lib.hid ht; have HTB := Lib.hid htb; have HF := Lib.hid hF
  clear k1 b1 R1 hb htb hk h hQ hc hH hjl hB ht hF
  go_enter Tryz.func29, Tryz.ntmps29
  go_upto_region 1 with fail
  (try rw [hP])
  clear hw1 hP
  go_wp2_with fail
  refine (HK.out _).mono ?_
  rintro _ _ ⟨rfl, rfl⟩
  go_wp2_with fail
  refine HS.out.mono ?_
  rintro _ w2 ⟨rfl, R2, b2, k2⟩
  have X2 := Lib.hid (X1.out.kp F1.out k2); have F2 := Lib.hid (k2 _ F1.out).1
  have K2 := Lib.hid (K1.out.trans k2); have B2 := Lib.hid (B1.out.trans b2)
  clear HS HK c0 c1 t0 t1 t2 hsz hz k2 b2 X1 F1 K1 B1 hn0
  obtain ⟨nb, hnb⟩ : ∃ b, ({ data := (tx c.ls (j + 1)).toArray } : ByteArray) = b := ⟨_, rfl⟩
  have hnl : nb.data.toList = tx c.ls (j + 1) := by rw [← hnb]
  obtain ⟨o, n, cp, V, _, _, _, hn0, _, hb, t0, t1, t2⟩ := R2.see
  obtain ⟨c0, c1⟩ := box2 hb
  have hsz := hb.1
  have hz := World.block_lt_of_cell? w2 _ t1
  rw [hnb] at t1
  have HN := Lib.hid (fun (p : Int) w => isname_any (kd c.ls (j + 1)) nb p w)
  rw [hnl] at HN
  obtain ⟨kk, hkk⟩ : ∃ k : Int, ((kd c.ls (j + 1) : Nat) : Int) = k := ⟨_, rfl⟩
  obtain ⟨pp, hpp⟩ : ∃ k : Int, ((pl c.en c.ls (j + 1) : Nat) : Int) = k := ⟨_, rfl⟩
  rw [hkk] at t0 HN; rw [hpp] at t2
  obtain ⟨w3, hw3, MB, b3⟩ : ∃ w3, w2.alloc (.cells #[.int .i64 kk, .string nb, .int .i64 pp] 82) = w3 ∧ Box w3 w2.heap.size [.int .i64 kk, .string nb, .int .i64 pp] ∧ Below w2.heap.size w2 w3 := ⟨_, rfl, Box.new _ _ [.int .i64 kk, .string nb, .int .i64 pp], (Below.refl _ _).alloc (Nat.le_refl _) _⟩
  have FM := R2.fresh (Nat.le_refl _) MB.1 b3
  have R3 := R2.on b3
  have k3 := Kp.below R2.lt b3
  have X3 := Lib.hid (X2.out.kp F2.out k3); have F3 := Lib.hid (k3 _ F2.out).1
  have K3 := Lib.hid (K2.out.trans k3); have B3 := Lib.hid (B2.out.trans (b3.mono (Nat.le_of_lt R2.lt)))
  obtain ⟨M, hM⟩ : ∃ M, w2.heap.size = M := ⟨_, rfl⟩
  rw [hM] at MB FM
  obtain ⟨m0, m1, m2⟩ := box3 MB
  have hms := MB.1
  have HM2 := Lib.hid (show P < M by have := X2.out.1; omega)
  clear hb R2 b3 k3 X2 F2 K2 B2
  go_upto_region 8 with fail
  (try rw [hM])
  clear hw3 hM c0 c1 t0 t1 t2 hsz hz hn0
  by_cases hnm : kd c.ls (j + 1) ≠ 1 ∨ tx c.ls (j + 1) ∈ PTree.takenL
  · rw [decide_eq_false (fun k => hnm.elim (fun a => a k.1) (fun a => k.2 a))] at HN
    have hFF := HF.out
    rw [if_pos hnm] at hFF
    have HR := Lib.hid hFF.symm
    have hXX := X3.out; have hF3 := F3.out; have hK3 := K3.out; have hB3 := B3.out
    have HN2 := Lib.hid (HN.out pp)
    go_wp2_with fail
    refine (HN2.out _).mono ?_
    rintro _ w4 ⟨rfl, b4⟩
    have hR4 := R3.on b4
    have k4 := Kp.below R3.lt b4
    have hX4 := hXX.kp hF3 k4; have hF4 := (k4 _ hF3).1
    have hK4 := hK3.trans k4; have hB4 := hB3.trans (b4.mono (Nat.le_of_lt R3.lt))
    obtain ⟨wz, hwz, XZ, kz, bz, RZ⟩ := store3 hX4 hF4 HH.out (Nat.le_of_eq HPW.out) hK4 hB4 hR4 (.string ⟨#[]⟩) (.string ⟨#[]⟩) (.int .i64 0)
    obtain ⟨e0, e1, e2⟩ := box3 hX4
    obtain ⟨f0, f1, f2⟩ := box3f hX4
    obtain ⟨q0, q1, q2⟩ := box3 XZ
    rw [← hwz] at q0 q1 q2
    have hsP := (hX4).1
    have HWZ := Lib.hid hwz; have KZ := Lib.hid kz; have BZ := Lib.hid bz; have RZ := Lib.hid RZ
    clear hwz kz bz XZ
    clear hR4 k4 hX4 hF4 hK4 hB4 hXX hF3 hK3 hB3 hFF hnm b4 R3 MB FM HN HN2 m0 m1 m2 hms
    go_wp2_with fail
    (try simp only [Exit.inBlock, Exit.then])
    refine bodyPost_ret (by simp [results, Tryz.results29, go_sem, q0, q1, q2]; try rfl) rfl ?_
    rw [HWZ.out, ← HQ.out, HR.out]
    exact ⟨⟨[], [], 0⟩, 2, j + 1, _, rfl, BZ.out, KZ.out, RZ.out, rfl, by decide, rfl⟩
  · rw [decide_eq_true (show kd c.ls (j + 1) = 1 ∧ tx c.ls (j + 1) ∉ PTree.takenL from ⟨Classical.not_not.1 (fun k => hnm (.inl k)), fun k => hnm (.inr k)⟩)] at HN
    have hFF := HF.out
    rw [if_neg hnm] at hFF
    have hj1 : j + 1 < c.ls.length := by
      by_cases hj : j + 1 < c.ls.length
      · exact hj
      · exact absurd (.inl (by unfold PTree.kd; rw [List.getElem?_eq_none (by omega)]; decide)) hnm
    have HN2 := Lib.hid (HN.out pp)
    have FM := Lib.hid FM; have MB := Lib.hid MB
    have R3 := Lib.hid R3
    clear hnm HN HF
    go_wp2_with fail
    refine (HN2.out _).mono ?_
    rintro _ w4 ⟨rfl, b4⟩
    have R4 := R3.out.on b4
    have k4 := Kp.below R3.out.lt b4
    have X4 := Lib.hid (X3.out.kp F3.out k4); have F4 := Lib.hid (k4 _ F3.out).1
    have M4 := Lib.hid (MB.out.kp FM.out k4); have G4 := Lib.hid (k4 _ FM.out).1
    have K4 := Lib.hid (K3.out.trans k4); have B4 := Lib.hid (B3.out.trans (b4.mono (Nat.le_of_lt R3.out.lt)))
    have HS := skip_any R4 hj1
    unfold Rc.p at HS
    have HS := Lib.hid HS
    have HJ1 := Lib.hid hj1
    clear R4 k4 b4 X3 F3 K3 B3 R3 MB FM HN2 m0 m1 m2 hms hj1
    go_wp2_with fail
    refine HS.out.mono ?_
    rintro _ w5 ⟨rfl, R5, b5, k5⟩
    have X5 := Lib.hid (X4.out.kp F4.out k5); have F5 := Lib.hid (k5 _ F4.out).1
    have M5 := Lib.hid (M4.out.kp G4.out k5); have G5 := Lib.hid (k5 _ G4.out).1
    have K5 := Lib.hid (K4.out.trans k5); have B5 := Lib.hid (B4.out.trans b5)
    clear HS b5 k5 X4 F4 M4 G4 K4 B4
    have wd61 : PTree.Wd [61] := ⟨_, _, rfl, rfl⟩
    by_cases h61 : tx c.ls (j + 2) = [61]
    · have HTK := take_yes (u := ⟨#[61]⟩) R5 (by decide) h61
      rw [PTree.must_yes HT.out wd61 h61] at hFF
      replace hFF : (R.next (PTree.ex c.en .whole 1 (c.ls.drop (j + 3))) fun t2 x => R.next (PTree.must c.en [59] t2) fun t3 _ => some (R.ok t3 (⟨tx c.ls j, tx c.ls (j + 1), x⟩ : Rl))) = F := hFF
      unfold Rc.p at HTK
      have HTK := Lib.hid HTK; have HF := Lib.hid hFF
      clear R5 h61 wd61 hFF
      go_wp2_with fail
      refine HTK.out.mono ?_
      rintro _ w6 ⟨rfl, R6, b6, k6⟩
      have X6 := Lib.hid (X5.out.kp F5.out k6); have F6 := Lib.hid (k6 _ F5.out).1
      have M6 := Lib.hid (M5.out.kp G5.out k6); have G6 := Lib.hid (k6 _ G5.out).1
      have K6 := Lib.hid (K5.out.trans k6); have B6 := Lib.hid (B5.out.trans b6)
      have HE := expr_any HT.out (d := 1) (by decide) R6 (by have := HB.out; have := HJ.out; omega)
      unfold Rc.p at HE
      have HE := Lib.hid HE
      have HJ3 := Lib.hid R6.le
      clear HTK R6 b6 k6 X5 F5 M5 G5 K5 B5
      go_wp2_with fail
      refine HE.out.mono ?_
      rintro _ w7 ⟨a, er, rfl, st, b7, k7⟩
      have X7 := Lib.hid (X6.out.kp F6.out k7); have F7 := Lib.hid (k7 _ F6.out).1
      have M7 := Lib.hid (M6.out.kp G6.out k7); have G7 := Lib.hid (k7 _ G6.out).1
      have K7 := Lib.hid (K6.out.trans k7); have B7 := Lib.hid (B6.out.trans b7)
      clear HE b7 k7 X6 F6 M6 G6 K6 B6
      rcases st.split with ⟨he, _⟩ | ⟨rfl, j7, t, hr, R7, rfl⟩
      · obtain ⟨j7, ys, e, q, R7, g1, g2, g3, g4⟩ := rst_fwd st he (fun t2 x => R.next (PTree.must c.en [59] t2) fun t3 _ => some (R.ok t3 (⟨tx c.ls j, tx c.ls (j + 1), x⟩ : Rl)))
        rw [HF.out] at g1
        have e1 : (er != 0) = true := by rw [bne_iff_ne]; exact he
        have HR := Lib.hid g1
        have GG := Lib.hid (And.intro g2 (And.intro g3 g4))
        have hX7 := X7.out
        obtain ⟨wz, hwz, XZ, kz, bz, RZ⟩ := store3 hX7 F7.out HH.out (Nat.le_of_eq HPW.out) K7.out B7.out R7 (.string ⟨#[]⟩) (.string ⟨#[]⟩) (.int .i64 0)
        obtain ⟨e0, e1, e2⟩ := box3 hX7
        obtain ⟨f0, f1, f2⟩ := box3f hX7
        obtain ⟨q0, q1, q2⟩ := box3 XZ
        rw [← hwz] at q0 q1 q2
        have hsP := (hX7).1
        have HWZ := Lib.hid hwz; have KZ := Lib.hid kz; have BZ := Lib.hid bz; have RZ := Lib.hid RZ
        clear hwz kz bz XZ
        clear st he R7 g1 g2 g3 g4 hX7 X7 F7 M7 G7 K7 B7
        go_wp2_with fail
        (try simp only [Exit.inBlock, Exit.then])
        refine bodyPost_ret (by simp [results, Tryz.results29, go_sem, q0, q1, q2]; try rfl) rfl ?_
        rw [HWZ.out, ← HQ.out, HR.out]
        exact ⟨⟨[], [], 0⟩, er, j7, _, rfl, BZ.out, KZ.out, RZ.out, GG.out⟩
      · have hlen := HJ3.out
        have hFF := HF.out
        rw [hr] at hFF
        replace hFF : (R.next (PTree.must c.en [59] (c.ls.drop j7)) fun t3 _ => some (R.ok t3 (⟨tx c.ls j, tx c.ls (j + 1), t⟩ : Rl))) = F := hFF
        have wd59 : PTree.Wd [59] := ⟨_, _, rfl, rfl⟩
        obtain ⟨A, hA⟩ : ∃ A : Nat, (xs.length + t.size - 1 : Nat) = A := ⟨_, rfl⟩
        rw [hA]
        by_cases h59 : tx c.ls j7 = [59]
        · have HTK := take_yes (u := ⟨#[59]⟩) R7 (by decide) h59
          rw [PTree.must_yes HT.out wd59 h59] at hFF
          have HR : Hid (F = some (R.ok (c.ls.drop (j7 + 1)) (⟨tx c.ls j, tx c.ls (j + 1), t⟩ : Rl))) := Lib.hid hFF.symm
          unfold Rc.p at HTK
          have HTK := Lib.hid HTK; have HA := Lib.hid hA
          clear R7 h59 wd59 hFF st hr hA hlen
          go_wp2_with fail
          refine HTK.out.mono ?_
          rintro _ w8 ⟨rfl, R8, b8, k8⟩
          have hX8 := X7.out.kp F7.out k8; have F8 := Lib.hid (k8 _ F7.out).1
          have M8 := M7.out.kp G7.out k8
          have K8 := Lib.hid (K7.out.trans k8); have B8 := Lib.hid (B7.out.trans b8)
          obtain ⟨m0, m1, m2⟩ := box3 M8
          have hms := M8.1
          obtain ⟨wz, hwz, XZ, kz, bz, RZ⟩ := store3 hX8 F8.out HH.out (Nat.le_of_eq HPW.out) K8.out B8.out R8 (.string tb) (.string nb) (.int .i64 A)
          obtain ⟨e0, e1, e2⟩ := box3 hX8
          obtain ⟨f0, f1, f2⟩ := box3f hX8
          obtain ⟨q0, q1, q2⟩ := box3 XZ
          rw [← hwz] at q0 q1 q2
          have hsP := (hX8).1
          have HWZ := Lib.hid hwz; have KZ := Lib.hid kz; have BZ := Lib.hid bz; have RZ := Lib.hid RZ
          clear hwz kz bz XZ
          have HNB := Lib.hid hnb
          clear R8 b8 k8 hX8 X7 F7 M7 G7 K7 B7 M8 HTK F8 K8 B8 hnb hnl hkk hpp
          go_wp2_with fail
          (try simp only [Exit.inBlock, Exit.then])
          refine bodyPost_ret (by simp [results, Tryz.results29, go_sem, q0, q1, q2]; try rfl) rfl ?_
          rw [HWZ.out, ← HQ.out, HR.out]
          refine ⟨⟨tx c.ls j, tx c.ls (j + 1), A⟩, 0, j7 + 1, _, ?_, BZ.out, KZ.out, RZ.out, rfl, rfl, rfl, by rw [← HA.out]⟩
          unfold rowC
          rw [HTB.out, HNB.out]
        · have HTK := take_no (u := ⟨#[59]⟩) R7 h59
          rw [PTree.must_no HT.out wd59 h59] at hFF
          have HR : Hid (F = some (R.bad 2 (pl c.en c.ls j7))) := Lib.hid hFF.symm
          unfold Rc.p at HTK
          have HTK := Lib.hid HTK
          have hX7 := X7.out
          obtain ⟨wz, hwz, XZ, kz, bz, RZ⟩ := store3 hX7 F7.out HH.out (Nat.le_of_eq HPW.out) K7.out B7.out R7 (.string ⟨#[]⟩) (.string ⟨#[]⟩) (.int .i64 0)
          obtain ⟨e0, e1, e2⟩ := box3 hX7
          obtain ⟨f0, f1, f2⟩ := box3f hX7
          obtain ⟨q0, q1, q2⟩ := box3 XZ
          rw [← hwz] at q0 q1 q2
          have hsP := (hX7).1
          have HWZ := Lib.hid hwz; have KZ := Lib.hid kz; have BZ := Lib.hid bz; have RZ := Lib.hid RZ
          clear hwz kz bz XZ
          clear R7 h59 wd59 hFF st hr hA hX7 X7 F7 M7 G7 K7 B7 hlen
          go_wp2_with fail
          refine HTK.out.mono ?_
          rintro _ _ ⟨rfl, rfl⟩
          go_wp2_with fail
          (try simp only [Exit.inBlock, Exit.then])
          refine bodyPost_ret (by simp [results, Tryz.results29, go_sem, q0, q1, q2]; try rfl) rfl ?_
          rw [HWZ.out, ← HQ.out, HR.out]
          exact ⟨⟨[], [], 0⟩, 2, j7, _, rfl, BZ.out, KZ.out, RZ.out, rfl, by decide, rfl⟩
    · have HTK := take_no (u := ⟨#[61]⟩) R5 h61
      rw [PTree.must_no HT.out wd61 h61] at hFF
      have HR : Hid (F = some (R.bad 2 (pl c.en c.ls (j + 2)))) := Lib.hid hFF.symm
      unfold Rc.p at HTK
      have HTK := Lib.hid HTK
      have hX5 := X5.out
      obtain ⟨wz, hwz, XZ, kz, bz, RZ⟩ := store3 hX5 F5.out HH.out (Nat.le_of_eq HPW.out) K5.out B5.out R5 (.string ⟨#[]⟩) (.string ⟨#[]⟩) (.int .i64 0)
      obtain ⟨e0, e1, e2⟩ := box3 hX5
      obtain ⟨f0, f1, f2⟩ := box3f hX5
      obtain ⟨q0, q1, q2⟩ := box3 XZ
      rw [← hwz] at q0 q1 q2
      have hsP := (hX5).1
      have HWZ := Lib.hid hwz; have KZ := Lib.hid kz; have BZ := Lib.hid bz; have RZ := Lib.hid RZ
      clear hwz kz bz XZ
      clear R5 h61 wd61 hFF hX5 X5 F5 M5 G5 K5 B5
      go_wp2_with fail
      refine HTK.out.mono ?_
      rintro _ _ ⟨rfl, rfl⟩
      go_wp2_with fail
      (try simp only [Exit.inBlock, Exit.then])
      refine bodyPost_ret (by simp [results, Tryz.results29, go_sem, q0, q1, q2]; try rfl) rfl ?_
      rw [HWZ.out, ← HQ.out, HR.out]
      exact ⟨⟨[], [], 0⟩, 2, j + 2, _, rfl, BZ.out, KZ.out, RZ.out, rfl, by decide, rfl⟩
end Go.Proofs.YtdkcdgjpcojdfaaGreatDoor
