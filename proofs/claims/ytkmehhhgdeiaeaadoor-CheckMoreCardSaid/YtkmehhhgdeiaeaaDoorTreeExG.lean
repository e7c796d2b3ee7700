/-
  What the landed reader answers: what is read so far, in memory; a token that is an expression by itself; what is in ().
-/
import Derived.Test.YtkmehhhgdeiaeaaDoorTreeLeafOfG
namespace PLex
theorem Lone.five {k : Nat} {u : List UInt8} (h : Lone kindOf k u) : k = 1 ∨ k = 2 ∨ k = 3 ∨ k = 4 ∨ k = 5 := by
  obtain ⟨c, r, rfl, _⟩ := id h
  have := h.num
  split at this <;> omega
end PLex
namespace Go.Proofs.YtkmehhhgdeiaeaaDoor
open Go.RowKit
open PTree (R Ex Tr Md tx kd pl)

/-- What is read, in memory: r of the tokens; the expressions ahead of it are xs. -/
def RSt (c : Rc) (xs : List Ex) (r : Option (R Tr)) (a er : Int) (w : World) : Prop :=
  ∃ j ys, Rd c w j ys ∧ match r with
    | none => False
    | some (.bad e q) => er = (e : Nat) ∧ e ≠ 0 ∧ pl c.en c.ls j = q
    | some (.ok ts t) => er = 0 ∧ ts = c.ls.drop j ∧ ys = xs ++ t.flat xs.length ∧ a = ((xs.length + t.size - 1 : Nat) : Int)
def RAns (c : Rc) (xs : List Ex) (r : Option (R Tr)) (w : World) (e : Ending) (w' : World) : Prop :=
  ∃ a er, e = .returned (.tuple #[.int .i64 a, .int .i64 er]) ∧ RSt c xs r a er w' ∧ Below c.H w w' ∧ Kp c w w'
variable {c : Rc} {w w' : World} {j : Nat} {xs : List Ex} {r : Option (R Tr)}
theorem RSt.on {a er : Int} (h : RSt c xs r a er w) (hb : Below w.heap.size w w') : RSt c xs r a er w' := by
  obtain ⟨j, ys, h1, h2⟩ := h
  exact ⟨j, ys, h1.on hb, h2⟩
theorem rst_bad {xs' : List Ex} {a : Int} {e : Nat} (h : Rd c w j xs') (he : e ≠ 0) : RSt c xs (some (.bad e (pl c.en c.ls j))) a e w := ⟨j, _, h, rfl, he, rfl⟩
theorem RSt.split {a er : Int} (h : RSt c xs r a er w) : (er ≠ 0 ∧ ∃ e q, r = some (.bad e q)) ∨ (er = 0 ∧ ∃ j t, r = some (.ok (c.ls.drop j) t) ∧ Rd c w j (xs ++ t.flat xs.length) ∧ a = ((xs.length + t.size - 1 : Nat) : Int)) := by
  obtain ⟨j, ys, h1, h2⟩ := h
  cases r with
  | none => exact h2.elim
  | some r =>
    cases r with
    | bad e q => exact .inl ⟨by omega, e, q, rfl⟩
    | ok ts t =>
      obtain ⟨g1, rfl, rfl, g2⟩ := h2
      exact .inr ⟨g1, j, t, rfl, h1, g2⟩
theorem RSt.next {a b er : Int} (h : RSt c xs r a er w) (he : er ≠ 0) (k : List PLex.Tok → Tr → Option (R Tr)) (xs' : List Ex) : RSt c xs' (R.next r k) b er w := by
  obtain ⟨j, ys, h1, h2⟩ := h
  cases r with
  | none => exact h2.elim
  | some r =>
    cases r with
    | bad e q => exact ⟨j, ys, h1, h2⟩
    | ok ts t => exact absurd h2.1 he
/-- What one token is read to. -/
def rleaf (en : Nat) (ls : List PLex.Tok) (j : Nat) : Option (R Tr) := match ls[j]? with
  | none => some (.bad 2 en)
  | some t => match PTree.leaf t with
    | none => some (.bad 2 t.at_)
    | some x => some (.ok (ls.drop (j + 1)) x)
theorem rleaf_end {en : Nat} {ls : List PLex.Tok} {j : Nat} (h : ls.length ≤ j) : rleaf en ls j = some (.bad 2 en) := by unfold rleaf; rw [List.getElem?_eq_none h]
theorem rleaf_at {en : Nat} {ls : List PLex.Tok} {j : Nat} {t : PLex.Tok} (h : ls[j]? = some t) : rleaf en ls j = match PTree.leaf t with
    | none => some (.bad 2 t.at_)
    | some x => some (.ok (ls.drop (j + 1)) x) := by unfold rleaf; rw [h]
/-- A token, as an expression by itself: or it is none. -/
theorem leafOf_at (ht : PTree.Toks c.ls) (hj : j ≤ c.ls.length) : ∃ y b, (∀ w, Calls Tryd.prog 72 #[.agg #[.int .i64 (kd c.ls j : Nat), .string ⟨(tx c.ls j).toArray⟩, .int .i64 (pl c.en c.ls j : Nat)]] w fun e w' => e = .returned (leafV y b) ∧ Below w.heap.size w w') ∧
    (b = true → j < c.ls.length ∧ ∃ x, rleaf c.en c.ls j = some (.ok (c.ls.drop (j + 1)) x) ∧ (∀ n, x.flat n = [y]) ∧ x.size = 1) ∧ (b = false → rleaf c.en c.ls j = some (.bad 2 (pl c.en c.ls j))) := by
  by_cases hlt : j < c.ls.length
  · have e0 : c.ls[j]? = some c.ls[j] := List.getElem?_eq_getElem hlt
    obtain ⟨lo, le⟩ := ht c.ls[j] (List.getElem_mem hlt)
    obtain ⟨T, hT⟩ : ∃ T, c.ls[j] = T := ⟨_, rfl⟩
    rw [hT] at e0 lo le
    have ek : kd c.ls j = T.kind := by unfold PTree.kd; rw [e0]
    have ex : tx c.ls j = T.text := by unfold PTree.tx; rw [e0]
    have ep : pl c.en c.ls j = T.at_ := by unfold PTree.pl; rw [e0]
    have er := rleaf_at (en := c.en) e0
    rw [ek, ex, ep, er]
    clear hT e0 ek ex ep er
    obtain ⟨k, u, p⟩ := T
    dsimp only at lo le ⊢
    have hsz : (⟨u.toArray⟩ : ByteArray).size ≤ 9223372036854775807 := by
      show u.toArray.size ≤ _
      rw [List.size_toArray]; omega
    have hu : (⟨u.toArray⟩ : ByteArray).data.toList = u := rfl
    rcases lo.five with rfl | rfl | rfl | rfl | rfl
    · refine ⟨_, _, fun w => leafn_any 1 ⟨u.toArray⟩ p w (by decide) (by decide) (by decide), ?_, ?_⟩
      · intro hb
        have hb' := (of_decide_eq_true hb).2
        rw [hu] at hb'
        refine ⟨hlt, .name u, ?_, fun n => rfl, rfl⟩
        simp only [PTree.leaf, if_neg hb', if_true]
      · intro hb
        have hb' := of_decide_eq_false hb
        have hm : u ∈ PTree.takenL := by
          by_cases h : u ∈ PTree.takenL
          · exact h
          · exact absurd ⟨rfl, h⟩ hb'
        simp only [PTree.leaf, if_pos hm, if_true]
    · refine ⟨_, _, fun w => leaf2_any ⟨u.toArray⟩ p w lo.whole, fun _ => ⟨hlt, .whole (PTree.numOf u), ?_, fun n => rfl, rfl⟩, fun h => by cases h⟩
      simp [PTree.leaf]
    · obtain ⟨n, hn⟩ := lo.amount
      refine ⟨_, _, fun w => leaf3_any ⟨u.toArray⟩ p w hsz hn, fun _ => ⟨hlt, .amount n, ?_, fun n => rfl, rfl⟩, fun h => by cases h⟩
      simp [PTree.leaf, hn]
    · obtain ⟨n, hn⟩ := lo.percent
      refine ⟨_, _, fun w => leaf4_any ⟨u.toArray⟩ p w hsz hn, fun _ => ⟨hlt, .rate n, ?_, fun n => rfl, rfl⟩, fun h => by cases h⟩
      simp [PTree.leaf, hn]
    · refine ⟨_, _, fun w => leafn_any 5 ⟨u.toArray⟩ p w (by decide) (by decide) (by decide), ?_, ?_⟩
      · intro hb
        exact absurd (of_decide_eq_true hb).1 (by decide)
      · intro _
        simp [PTree.leaf]
  · obtain rfl : j = c.ls.length := by omega
    have e0 : c.ls[c.ls.length]? = none := List.getElem?_eq_none (Nat.le_refl _)
    have ek : kd c.ls c.ls.length = 0 := by unfold PTree.kd; rw [e0]
    have ex : tx c.ls c.ls.length = [] := by unfold PTree.tx; rw [e0]
    have ep : pl c.en c.ls c.ls.length = c.en := by unfold PTree.pl; rw [e0]
    rw [ek, ex, ep, rleaf_end (Nat.le_refl _)]
    refine ⟨_, _, fun w => leafn_any 0 ⟨#[]⟩ c.en w (by decide) (by decide) (by decide), ?_, fun _ => rfl⟩
    intro hb
    exact absurd (of_decide_eq_true hb).1 (by decide)
set_option maxHeartbeats 3200000 in
theorem leaf_any (ht : PTree.Toks c.ls) (h : Rd c w j xs) (hn : xs.length + 1 ≤ 100000) :
    Calls Tryd.prog 71 #[c.p] w (RAns c xs (rleaf c.en c.ls j) w) := by
  obtain ⟨y, b, HL, h1, h2⟩ := leafOf_at ht h.le
  have HL := Lib.hid HL
  have HR := Lib.hid h
  obtain ⟨Q, hQ⟩ : ∃ Q, RAns c xs (rleaf c.en c.ls j) w = Q := ⟨_, rfl⟩
  rw [hQ]
  have HQ := Lib.hid hQ
  obtain ⟨o, n, cp, V, _, _, _, hn0, _, hb, t0, t1, t2⟩ := h.see
  obtain ⟨c0, c1⟩ := box2 hb
  have hsz := hb.1
  have hz := World.block_lt_of_cell? w _ t1
  obtain ⟨kk, hkk⟩ : ∃ k : Int, ((kd c.ls j : Nat) : Int) = k := ⟨_, rfl⟩
  obtain ⟨pp, hpp⟩ : ∃ k : Int, ((pl c.en c.ls j : Nat) : Int) = k := ⟨_, rfl⟩
  obtain ⟨tb, htb⟩ : ∃ b, ({ data := (tx c.ls j).toArray } : ByteArray) = b := ⟨_, rfl⟩
  rw [hkk] at t0 HL; rw [hpp] at t2 HL; rw [htb] at t1 HL
  have HN := Lib.hid hn
  clear hb h htb hpp hkk hQ hn
  unfold Rc.p leafV exC at *
  cases b with
  | true =>
    have H1 := Lib.hid (h1 rfl)
    clear h1 h2
    go_enter Tryd.func71, Tryd.ntmps71
    go_wp2_with fail
    refine (HL.out _).mono ?_
    rintro _ w1 ⟨rfl, b⟩
    have R1 := HR.out.on b
    obtain ⟨hj, x, h4, h5, h6⟩ := H1.out
    have B1 := Lib.hid (b.mono (Nat.le_of_lt HR.out.lt))
    have K1 := Lib.hid (Kp.below HR.out.lt b)
    go_upto_region 4 with fail
    obtain ⟨w2, hw2, EB, b2⟩ : ∃ w2, w1.alloc (.cells (exC y).toArray 45) = w2 ∧ Box w2 w1.heap.size (exC y) ∧ Below w1.heap.size w1 w2 := ⟨_, rfl, Box.new _ _ _, (Below.refl _ _).alloc (Nat.le_refl _) _⟩
    have FE := R1.fresh (Nat.le_refl _) EB.1 b2
    have R2 := R1.on b2
    have B2 := Lib.hid (B1.out.trans (b2.mono (Nat.le_of_lt R1.lt)))
    have K2 := Lib.hid (K1.out.trans (Kp.below R1.lt b2))
    have HS := Lib.hid (skip_any R2 hj)
    have HH := Lib.hid h4; have H5 := Lib.hid (h5 xs.length); have H6 := Lib.hid h6
    obtain ⟨X, hX⟩ : ∃ X, w1.heap.size = X := ⟨_, rfl⟩
    unfold exC at hw2
    rw [hw2]
    rw [hX] at EB FE ⊢
    have EB := Lib.hid EB; have FE := Lib.hid FE
    clear hw2 hX b b2 R1 R2 B1 K1 hj h4 h5 h6 HL t0 t1 t2 c0 c1 hz H1
    unfold Rc.p at HS
    go_wp2_with fail
    refine HS.out.mono ?_
    rintro _ w3 ⟨rfl, R3, b3, k3⟩
    have EB3 := EB.out.kp FE.out k3
    obtain ⟨e0, e1, e2, e3, e4, e5⟩ := box6 EB3
    have hs3 := EB3.1
    have HP := put_any R3 y HN.out
    unfold Rc.p exC at HP
    have HP := Lib.hid HP
    have B3 := Lib.hid (B2.out.trans b3); have K3 := Lib.hid (K2.out.trans k3)
    clear EB3 EB FE HS B2 K2 R3 b3 k3
    go_wp2_with fail
    refine HP.out.mono ?_
    rintro _ w4 ⟨rfl, R4, b4, k4⟩
    have R4 := Lib.hid R4; have B4 := Lib.hid (B3.out.trans b4); have K4 := Lib.hid (K3.out.trans k4)
    clear HP b4 k4 B3 K3 e0 e1 e2 e3 e4 e5
    go_wp2_with fail
    rw [← HQ.out, HH.out]
    exact ⟨_, _, rfl, ⟨j + 1, _, R4.out, rfl, rfl, by rw [H5.out], by rw [H6.out]; simp⟩, B4.out, K4.out⟩
  | false =>
    have H2 := Lib.hid (h2 rfl)
    clear h1 h2
    go_enter Tryd.func71, Tryd.ntmps71
    go_wp2_with fail
    refine (HL.out _).mono ?_
    rintro _ w1 ⟨rfl, b⟩
    have R1 := HR.out.on b
    have B1 := b.mono (Nat.le_of_lt HR.out.lt)
    have K1 := Kp.below HR.out.lt b
    have R2 := Lib.hid (R1.on ((Below.refl w1.heap.size w1).alloc (Nat.le_refl _) (.cells (exC y).toArray 45)))
    have B2 := Lib.hid (B1.trans (((Below.refl w1.heap.size w1).alloc (Nat.le_refl _) (.cells (exC y).toArray 45)).mono (Nat.le_of_lt R1.lt)))
    have K2 := Lib.hid (K1.trans (Kp.below R1.lt ((Below.refl w1.heap.size w1).alloc (Nat.le_refl _) (.cells (exC y).toArray 45))))
    clear b R1 B1 K1 HL HR
    go_wp2_with fail
    rw [← HQ.out, H2.out]
    exact ⟨_, _, rfl, rst_bad R2.out (by decide), B2.out, K2.out⟩
end Go.Proofs.YtkmehhhgdeiaeaaDoor
