/-
  What the landed reader answers: a sign and the part behind it; what is in ().
-/
import Derived.Test.YtkmehhhgdeiaeaaDoorTreeExG
namespace PTree
open PLex (Tok)
theorem kd_pos {ls : List Tok} {j : Nat} (h : j < ls.length) : kd ls j = ls[j].kind := by unfold kd; rw [List.getElem?_eq_getElem h]
/-- A word or a sign stands there just if the token's text is it. -/
theorem textOf_tx {ls : List Tok} (ht : Toks ls) (j : Nat) {u : List UInt8} (hu : Wd u) : textOf (ls.drop j) = u ↔ tx ls j = u := by
  by_cases hj : j < ls.length
  · rw [List.drop_eq_getElem_cons hj, tx_at hj]
    obtain ⟨lo, _⟩ := ht ls[j] (List.getElem_mem hj)
    obtain ⟨c, r, rfl, hc⟩ := hu
    show (if _ then _ else _) = _ ↔ _
    by_cases hk : ls[j].kind = 1 ∨ ls[j].kind = 5
    · rw [if_pos hk]
    · rw [if_neg hk]
      refine ⟨fun h => (by cases h), fun h => ?_⟩
      exfalso
      rw [h] at lo
      have := lo.num
      rw [if_neg (by rw [hc]; decide)] at this
      exact hk this
  · have hn := hu.ne
    rw [List.drop_of_length_le (by omega)]
    have : tx ls j = [] := by unfold tx; rw [List.getElem?_eq_none (by omega)]
    rw [this]; rfl
theorem must_yes {ls : List Tok} (ht : Toks ls) {en j : Nat} {u : List UInt8} (hu : Wd u) (h : tx ls j = u) : must en u (ls.drop j) = some (.ok (ls.drop (j + 1)) ()) := by
  unfold must; rw [if_pos ((textOf_tx ht j hu).2 h), List.tail_drop]
theorem must_no {ls : List Tok} (ht : Toks ls) {en j : Nat} {u : List UInt8} (hu : Wd u) (h : tx ls j ≠ u) : must en u (ls.drop j) = some (.bad 2 (pl en ls j)) := by
  unfold must; rw [if_neg (fun k => h ((textOf_tx ht j hu).1 k)), pl_drop]
/-- A part has no more rows than tokens were taken. -/
theorem next_nil {α β : Type} (k : List Tok → α → Option (R β)) (e p : Nat) : R.next (some (.bad e p)) k = some (.bad e p) := rfl
end PTree
namespace Go.Proofs.YtkmehhhgdeiaeaaDoor
open Go.RowKit
open PTree (R Ex Tr Md tx kd pl)
variable {c : Rc} {w w' : World} {j : Nat} {xs : List Ex} {r : Option (R Tr)}

/-- What is closed by a ). -/
def rclosed (en : Nat) (r : Option (R Tr)) : Option (R Tr) := R.next r fun ts t => R.next (PTree.must en [41] ts) fun t1 _ => some (.ok t1 t)
set_option maxHeartbeats 3200000 in
theorem closed_any (ht : PTree.Toks c.ls) {a er : Int} (h : RSt c xs r a er w) :
    Calls Tryd.prog 70 #[c.p, .int .i64 a, .int .i64 er] w (RAns c xs (rclosed c.en r) w) := by
  obtain ⟨Q, hQ⟩ : ∃ Q, RAns c xs (rclosed c.en r) w = Q := ⟨_, rfl⟩
  rw [hQ]
  have HQ := Lib.hid hQ
  clear hQ
  rcases h.split with ⟨he, _⟩ | ⟨rfl, j, t, rfl, hR, rfl⟩
  · have H := Lib.hid h
    have e1 : (er != 0) = true := by rw [bne_iff_ne]; exact he
    have HE := Lib.hid he
    clear h he
    go_enter Tryd.func70, Tryd.ntmps70
    go_wp2_with fail
    rw [← HQ.out]
    exact ⟨_, _, rfl, H.out.next HE.out _ _, Below.refl _ _, Kp.refl _ _⟩
  · have H := Lib.hid h
    have hw : PTree.Wd [41] := ⟨41, [], rfl, rfl⟩
    clear h
    obtain ⟨A, hA⟩ : ∃ A : Int, ((xs.length + t.size - 1 : Nat) : Int) = A := ⟨_, rfl⟩
    rw [hA] at H ⊢
    have HA := Lib.hid hA
    clear hA
    by_cases hx : tx c.ls j = [41]
    · have HT := Lib.hid (take_yes (u := ⟨#[41]⟩) hR (by decide) hx)
      have HM := Lib.hid (PTree.must_yes (en := c.en) ht hw hx)
      clear hR hx hw
      unfold Rc.p at *
      go_enter Tryd.func70, Tryd.ntmps70
      go_wp2_with fail
      refine HT.out.mono ?_
      rintro _ w1 ⟨rfl, R1, b, k⟩
      have R1 := Lib.hid R1; have B1 := Lib.hid b; have K1 := Lib.hid k
      clear HT b k
      go_wp2_with fail
      rw [← HQ.out]
      refine ⟨_, _, rfl, ⟨j + 1, _, R1.out, ?_⟩, B1.out, K1.out⟩
      show match (R.next (PTree.must c.en [41] (c.ls.drop j)) fun t1 _ => some (R.ok t1 t)) with | none => _ | some (.bad e q) => _ | some (.ok ts t) => _
      rw [HM.out]
      exact ⟨rfl, rfl, rfl, HA.out.symm⟩
    · have HT := Lib.hid (take_no (u := ⟨#[41]⟩) hR hx)
      have HM := Lib.hid (PTree.must_no (en := c.en) ht hw hx)
      have HR := Lib.hid hR
      clear hR hx hw
      unfold Rc.p at *
      go_enter Tryd.func70, Tryd.ntmps70
      go_wp2_with fail
      refine HT.out.mono ?_
      rintro _ _ ⟨rfl, rfl⟩
      clear HT
      go_wp2_with fail
      rw [← HQ.out]
      refine ⟨_, _, rfl, ⟨j, _, HR.out, ?_⟩, Below.refl _ _, Kp.refl _ _⟩
      show match (R.next (PTree.must c.en [41] (c.ls.drop j)) fun t1 _ => some (R.ok t1 t)) with | none => _ | some (.bad e q) => _ | some (.ok ts t) => _
      rw [HM.out]
      exact ⟨rfl, by decide, rfl⟩
/-- A function that has a body is entered. -/
theorem run_fn {F : FuncId} {fn : Func} (hf : Tryd.prog.funcs[F]? = some fn) (hn : (fn.name == "runtime.NumGoroutine") = false) (hb : fn.body.isNone = false) (args : Array Value) (w : World) : (callFunc F args).run Tryd.prog w = .ok (.enter F args) w := by
  have h1 : ¬ fn.name = "runtime.NumGoroutine" := by simpa using hn
  have h2 : ¬ fn.body = none := by intro h; rw [h] at hb; cases hb
  unfold callFunc
  simp [go_sem, hf, h1, h2]
set_option maxRecDepth 100000 in
set_option maxHeartbeats 3200000 in
theorem second_any {F : Nat} {d : Int} {ta : Tr} {u : List UInt8} (h : Rd c w j (xs ++ ta.flat xs.length)) (hu : tx c.ls j = u) (hne : u ≠ []) (HE : ∀ args w, (callFunc F args).run Tryd.prog w = .ok (.enter F args) w)
    (HP : ∀ w', Rd c w' (j + 1) (xs ++ ta.flat xs.length) → Calls Tryd.prog F #[c.p, .int .i64 d] w' (RAns c (xs ++ ta.flat xs.length) r w'))
    (hf : ∀ ts t, r = some (.ok ts t) → (xs ++ ta.flat xs.length).length + t.size + 1 ≤ 100000) :
    Calls Tryd.prog 54 #[c.p, .int .i64 ((xs.length + ta.size - 1 : Nat) : Int), .func (.func F) #[c.p] #[], .int .i64 d] w (RAns c xs (R.next r fun ts b => some (.ok ts (.bin u ta b))) w) := by
  obtain ⟨Q, hQ⟩ : ∃ Q, RAns c xs (R.next r fun ts b => some (.ok ts (.bin u ta b))) w = Q := ⟨_, rfl⟩
  rw [hQ]
  have HQ := Lib.hid hQ
  have HS := Lib.hid (skip_any h (PTree.tx_pos (by rw [hu]; exact hne)))
  have HP := Lib.hid HP
  have HF := Lib.hid hf
  obtain ⟨A, hA⟩ : ∃ A : Nat, (xs.length + ta.size - 1 : Nat) = A := ⟨_, rfl⟩
  rw [hA]
  have HA := Lib.hid hA
  obtain ⟨o, n, cp, V, _, _, _, hn0, _, hb, t0, t1, t2⟩ := h.see
  obtain ⟨c0, c1⟩ := box2 hb
  have hsz := hb.1
  have hz := World.block_lt_of_cell? w _ t1
  rw [hu] at t1
  clear hb h hu hne hQ hf hA
  unfold Rc.p at *
  go_enter Tryd.func54, Tryd.ntmps54
  go_wp2_with fail
  refine HS.out.mono ?_
  rintro _ w1 ⟨rfl, R1, b1, k1⟩
  have HC := Lib.hid (HP.out w1 R1)
  have B1 := Lib.hid b1; have K1 := Lib.hid k1
  clear HS R1 b1 k1 HP t0 t1 t2 c0 c1 hsz hz
  go_wp2_with fail
  refine HC.out.mono ?_
  rintro _ w2 ⟨a, er, rfl, st, b2, k2⟩
  have B2 := Lib.hid (B1.out.trans b2); have K2 := Lib.hid (K1.out.trans k2)
  clear HC b2 k2 B1 K1
  rcases st.split with ⟨he, _⟩ | ⟨rfl, j2, tb, rfl, hR, rfl⟩
  · have H := Lib.hid st
    have e1 : (er != 0) = true := by rw [bne_iff_ne]; exact he
    have HE := Lib.hid he
    clear st he
    go_wp2_with fail
    rw [← HQ.out]
    exact ⟨_, _, rfl, H.out.next HE.out _ _, B2.out, K2.out⟩
  · have HP := put_any hR ⟨u, [], 0, A, (xs ++ ta.flat xs.length).length + tb.size - 1, 0⟩ (by have := HF.out _ _ rfl; rw [List.length_append, Tr.flat_len]; omega)
    unfold exC Rc.p at HP
    have HP := Lib.hid HP
    obtain ⟨Bn, hB⟩ : ∃ B : Nat, ((xs ++ ta.flat xs.length).length + tb.size - 1 : Nat) = B := ⟨_, rfl⟩
    rw [hB] at HP ⊢
    have HB := Lib.hid hB
    clear st hR hB
    go_wp2_with fail
    refine HP.out.mono ?_
    rintro _ w3 ⟨rfl, R3, b3, k3⟩
    have R3 := Lib.hid R3; have B3 := Lib.hid (B2.out.trans b3); have K3 := Lib.hid (K2.out.trans k3)
    clear HP b3 k3 B2 K2
    go_wp2_with fail
    rw [← HQ.out]
    refine ⟨_, _, rfl, ⟨j2, _, R3.out, rfl, rfl, ?_, ?_⟩, B3.out, K3.out⟩
    · rw [← HA.out, ← HB.out, List.length_append, Tr.flat_len]
      simp only [Tr.flat, List.append_assoc]
    · rw [Tr.flat_len, Tr.flat_len]
      simp only [Tr.size]
      omega
end Go.Proofs.YtkmehhhgdeiaeaaDoor
