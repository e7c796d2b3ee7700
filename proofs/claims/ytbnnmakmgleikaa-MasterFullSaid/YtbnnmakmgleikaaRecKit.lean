/-
  Rows of records of any type: a slice reads as a list of them; append of one, and of a slice, to a row of the call's own.
-/
import Derived.Test.YtbnnmakmgleikaaBase
import Derived.WalkKit
import Derived.ProofKit
import Derived.Below
import Derived.OwnWalk
import Derived.Laws.AppendOwnNone
import Derived.Laws.OwnMore
import Derived.Maps.AppendAt
import Derived.Deep.RegionHeld
namespace Go.Proofs.Ytbnnmakmgleikaa
open Go.RowKit

/-- How a record lies in cells. -/
structure Rec (α : Type) where
  C : α → List Value
  k : Nat
  pos : 0 < k
  len : ∀ x, (C x).length = k
  one : ∀ x, ∀ u ∈ C x, u.oneCell' = true
variable {α : Type} {R : Rec α}
def Rec.cells (R : Rec α) (l : List α) : List Value := l.flatMap R.C
theorem Rec.cells_append (R : Rec α) (l m : List α) : R.cells (l ++ m) = R.cells l ++ R.cells m := List.flatMap_append
theorem Rec.cells_one (R : Rec α) (x : α) : R.cells [x] = R.C x := by simp [Rec.cells]
theorem Rec.cells_len (R : Rec α) (l : List α) : (R.cells l).length = l.length * R.k := by
  induction l with
  | nil => simp [Rec.cells]
  | cons x l ih =>
    have e : R.cells (x :: l) = R.C x ++ R.cells l := rfl
    rw [e, List.length_append, R.len, ih, List.length_cons, Nat.succ_mul]; omega
theorem Rec.cells_get (R : Rec α) : ∀ (l : List α) (i : Nat) (h : i < l.length) (j : Nat) (v : Value), (R.C l[i])[j]? = some v → (R.cells l)[i * R.k + j]? = some v
  | [], _, h, _, _, _ => by simp at h
  | x :: l, 0, _, j, v, e => by
    have hj : j < (R.C x).length := (List.getElem?_eq_some_iff.1 e).1
    have e2 : R.cells (x :: l) = R.C x ++ R.cells l := rfl
    rw [e2, Nat.zero_mul, Nat.zero_add, List.getElem?_append_left hj]; exact e
  | x :: l, i + 1, h, j, v, e => by
    have ih := R.cells_get l i (by simpa using h) j v e
    have e2 : R.cells (x :: l) = R.C x ++ R.cells l := rfl
    have e3 : (i + 1) * R.k + j = R.k + (i * R.k + j) := by rw [Nat.succ_mul]; omega
    rw [e2, e3, List.getElem?_append_right (by rw [R.len]; omega), R.len, Nat.add_sub_cancel_left]; exact ih
theorem Rec.cells_at (R : Rec α) : ∀ (l : List α) (q : Nat) (v : Value), (R.cells l)[q]? = some v → ∃ i, ∃ h : i < l.length, ∃ j, q = i * R.k + j ∧ (R.C l[i])[j]? = some v
  | [], _, _, e => by simp [Rec.cells] at e
  | x :: l, q, v, e => by
    have e2 : R.cells (x :: l) = R.C x ++ R.cells l := rfl
    rw [e2] at e
    by_cases hq : q < (R.C x).length
    · rw [List.getElem?_append_left hq] at e
      exact ⟨0, by simp, q, by simp, e⟩
    · rw [List.getElem?_append_right (by omega), R.len] at e
      rw [R.len] at hq
      obtain ⟨i, h, j, e3, e4⟩ := R.cells_at l _ v e
      exact ⟨i + 1, by simpa using h, j, by rw [Nat.succ_mul]; omega, e4⟩
theorem Rec.cells_one' (R : Rec α) (l : List α) : ∀ u ∈ R.cells l, u.oneCell' = true := by
  intro u hu
  obtain ⟨x, _, h⟩ := List.mem_flatMap.1 hu
  exact R.one x u h
/-- A slice that reads as a list of records. -/
def SlX (R : Rec α) (w : World) (A : Option Addr) (n : Nat) (l : List α) : Prop :=
  l.length = n ∧ (n = 0 ∨ ∃ b off, A = some ⟨b, off, none⟩ ∧ ∀ i (h : i < l.length) j v, (R.C l[i])[j]? = some v → w.cell? ⟨b, off + i * R.k + j, none⟩ = some v)
theorem SlX.on {w w' : World} {A : Option Addr} {n : Nat} {l : List α} (h : SlX R w A n l) (hb : Below w.heap.size w w') : SlX R w' A n l := by
  obtain ⟨h1, h2⟩ := h
  refine ⟨h1, ?_⟩
  rcases h2 with h2 | ⟨b, off, h3, h4⟩
  · exact .inl h2
  · exact .inr ⟨b, off, h3, fun i hi j v e => (hb.cell (World.block_lt_of_cell? w _ (h4 i hi j v e))).trans (h4 i hi j v e)⟩
theorem slr_nil (R : Rec α) (w : World) (A : Option Addr) : SlX R w A 0 [] := ⟨rfl, .inl rfl⟩
theorem SlX.at {w : World} {A : Option Addr} {n : Nat} {l : List α} (h : SlX R w A n l) {i : Nat} (hi : i < n) :
    ∃ b off, A = some ⟨b, off, none⟩ ∧ ∀ i (h : i < l.length) j v, (R.C l[i])[j]? = some v → w.cell? ⟨b, off + i * R.k + j, none⟩ = some v := by
  rcases h.2 with h | h
  · omega
  · exact h
theorem addr_add (g j : Nat) : (⟨g, 0, none⟩ : Addr).add j = ⟨g, j, none⟩ := by unfold Addr.add; split <;> simp_all
theorem addr_add' (g o j : Nat) : (⟨g, o, none⟩ : Addr).add j = ⟨g, o + j, none⟩ := by unfold Addr.add; split <;> simp_all
theorem slr_of_own {w : World} {base n : Nat} {e : TypeId} {v : Value} {l : List α} (h : w.ownsRow base e R.k v n (R.cells l)) (hl : l.length = n) :
    ∃ A cap, v = .slice A n cap ∧ (A = none → cap = 0) ∧ n ≤ cap ∧ SlX R w A n l := by
  rcases h.2 with ⟨rfl, rfl⟩ | ⟨g, cap, cur, rfl, _, _, h1, h2, _⟩
  · obtain rfl : l = [] := List.eq_nil_of_length_eq_zero hl
    exact ⟨none, 0, rfl, fun _ => rfl, Nat.le_refl _, slr_nil R w _⟩
  · refine ⟨_, cap, rfl, (fun e => by cases e), h1, hl, .inr ⟨g, 0, rfl, fun i hi j v e => ?_⟩⟩
    have c := h.cells (g := g) rfl _ _ (R.cells_get l i hi j v e)
    rw [addr_add] at c
    rw [Nat.zero_add]; exact c

theorem own_from {w : World} {base n cap : Nat} {e : TypeId} {k : Nat} {A : Option Addr} {xs : List Value} (h : w.ownsRow base e k (.slice A n cap) n xs) : ∀ a, A = some a → base ≤ a.block := by
  rintro a rfl
  rcases h.2 with ⟨h, _⟩ | ⟨g, cap, cur, h, hg, _⟩
  · cases h
  · cases h; exact hg
theorem SlX.far {w : World} {A : Option Addr} {n B : Nat} {l : List α} (h : SlX R w A n l) (hA : ∀ a, A = some a → B ≤ a.block) {p : Addr} (hp : p.block < B) (v : Value) : SlX R (w.setCell p v) A n l := by
  obtain ⟨h1, h2⟩ := h
  refine ⟨h1, ?_⟩
  rcases h2 with h2 | ⟨b, off, rfl, h4⟩
  · exact .inl h2
  · have hb : B ≤ b := hA _ rfl
    exact .inr ⟨b, off, rfl, fun i hi j u e => by rw [World.cell?_setCell_far _ _ _ _ (by simp; omega)]; exact h4 i hi j u e⟩
theorem SlX.cells {w w' : World} {A : Option Addr} {n : Nat} {l : List α} (h : SlX R w A n l) (hc : ∀ b, (∃ off, A = some ⟨b, off, none⟩) → n ≠ 0 → ∀ o, w'.cell? ⟨b, o, none⟩ = w.cell? ⟨b, o, none⟩) : SlX R w' A n l := by
  obtain ⟨h1, h2⟩ := h
  refine ⟨h1, ?_⟩
  by_cases h0 : n = 0
  · exact .inl h0
  rcases h2 with h2 | ⟨b, off, rfl, h4⟩
  · exact .inl h2
  · exact .inr ⟨b, off, rfl, fun i hi j v e => by rw [hc b ⟨_, rfl⟩ h0]; exact h4 i hi j v e⟩
/-- What is asked of the type of records, e, and of the type of its slices, t. -/
structure RecTy (R : Rec α) (e t : TypeId) (bytes : Nat) : Prop where
  info : ∃ z, (Try.prog.info? e).map (fun i => (i.zero, i.size, i.bytes)) = some (some z, R.k, bytes) ∧ z.cells.size = R.k
  under : Try.prog.underlying t = some (.slice e)
  few : bytes ≤ 1000000
/-- 's = append(s, y)', s a row of the call's own, y in a block of its own. -/
theorem append_rec {e t : TypeId} {bytes : Nat} (T : RecTy R e t bytes) {w : World} {ops : Array Oper} {rest : List Oper} {o : Oper} {a : Act} {Q : Exit → Act → World → Prop} (hgd : o.guard = none) (s x : Operand)
    (ho : o.op = .call { callee := .builtin .append, args := #[s, x], argTypes := #[t, t] })
    (base : Nat) (v : Value) (l : List α) (y : α) (hs : a.eval s = v) (hown : w.ownsRow base e R.k v l.length (R.cells l))
    (hx : a.eval x = .slice (some ⟨w.heap.size, 0, none⟩) 1 1) (hn : l.length + 1 ≤ 100000) (hbase : base ≤ w.heap.size)
    (h : ∀ v' w', w'.ownsRow base e R.k v' (l.length + 1) (R.cells (l ++ [y])) → Below base w w' → wpList Try.prog ops Q rest (a.put o.dst v') w') :
    wpList Try.prog ops Q (o :: rest) a (w.alloc (.cells (R.C y).toArray e)) := by
  obtain ⟨z, hz, hzs⟩ := T.info
  obtain ⟨i0, hi, hz0, hz1, hz2⟩ := info_parts hz
  refine wpList_append_own_at _ hgd s x t ho base e i0 z R.k bytes T.under hi hz0 hz1 hz2 hzs R.pos v l.length _ hs (hown.alloc _) ⟨w.heap.size, 0, none⟩ 1 1 (R.C y) hx (by rw [R.len, Nat.one_mul]) (fun j u hj => ?_) (R.one y) (by unfold maxLen; omega) ?_ (by simp; omega) (fun v' w' ho' hg _ hat => h v' w' ?_ ?_)
  · rw [addr_add, World.cell?_alloc_at _ _ _ _ rfl]; simpa using hj
  · have := Nat.mul_le_mul hn T.few; omega
  · rw [R.cells_append, R.cells_one]; exact ho'
  · exact ((Below.refl _ _).alloc hbase _).grown hg (by simp; omega) (fun k hk => (hown.lt k hk).1)
/-- 's = append(s, x...)', s a row of the call's own, x a slice that reads as a list. -/
theorem append_recs {e t : TypeId} {bytes : Nat} (T : RecTy R e t bytes) {w : World} {ops : Array Oper} {rest : List Oper} {o : Oper} {a : Act} {Q : Exit → Act → World → Prop} (hgd : o.guard = none) (s x : Operand)
    (ho : o.op = .call { callee := .builtin .append, args := #[s, x], argTypes := #[t, t] })
    (base : Nat) (v : Value) (l : List α) (hs : a.eval s = v) (hown : w.ownsRow base e R.k v l.length (R.cells l))
    (A : Option Addr) (m c : Nat) (xs : List α) (hx : a.eval x = .slice A m c) (hc : A = none → c = 0) (hsl : SlX R w A m xs) (hn : l.length + m ≤ 100000) (hbase : base ≤ w.heap.size)
    (h : ∀ v' w', w'.ownsRow base e R.k v' (l.length + m) (R.cells (l ++ xs)) → Below base w w' → wpList Try.prog ops Q rest (a.put o.dst v') w') :
    wpList Try.prog ops Q (o :: rest) a w := by
  obtain ⟨z, hz, hzs⟩ := T.info
  obtain ⟨i0, hi, hz0, hz1, hz2⟩ := info_parts hz
  obtain ⟨h1, h2⟩ := hsl
  cases A with
  | none =>
    obtain rfl := hc rfl
    have hm : m = 0 := by
      rcases h2 with h2 | ⟨b, off, e, _⟩
      · exact h2
      · cases e
    subst hm
    obtain rfl : xs = [] := List.eq_nil_of_length_eq_zero h1
    refine wpList_append_own_none hgd s x t ho base e i0 R.k T.under hi v l.length _ hs hown hx (h v w ?_ (Below.refl _ _))
    rw [List.append_nil]; exact hown
  | some ad =>
    refine wpList_append_own w hgd s x t ho base e i0 z R.k bytes T.under hi hz0 hz1 hz2 hzs R.pos v l.length _ hs hown ad m c (R.cells xs) hx (by rw [R.cells_len, h1]) (fun j u hj => ?_) (R.cells_one' xs) (by unfold maxLen; omega) ?_ hbase (fun v' w' ho' hg _ => h v' w' ?_ ?_)
    · obtain ⟨i, hi', q, rfl, hq⟩ := R.cells_at xs j u hj
      rcases h2 with h2 | ⟨b, off, e, hcell⟩
      · omega
      · cases e
        rw [addr_add', ← hcell i hi' q u hq, Nat.add_assoc]
    · have := Nat.mul_le_mul hn T.few; omega
    · rw [R.cells_append]; exact ho'
    · exact (Below.refl _ _).grown hg hbase (fun k hk => (hown.lt k hk).1)
end Go.Proofs.Ytbnnmakmgleikaa
