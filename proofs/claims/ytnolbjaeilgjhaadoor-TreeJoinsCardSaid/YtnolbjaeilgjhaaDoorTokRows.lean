/-
  Rows of words (an int, a text, an int) of the call's own: they read as lists; append of one word. For any type of three such cells.
-/
import Derived.Test.YtnolbjaeilgjhaaDoorLexMath2
import Derived.OwnWalk
import Derived.Laws.AppendOwnNone
import Derived.Laws.OwnMore
import Derived.Maps.AppendAt
import Derived.Deep.AppendLies
namespace Go.Proofs.YtnolbjaeilgjhaaDoor
open Go.RowKit

/-- A word's cells. -/
def tokC (x : PLex.Tok) : List Value := [.int .i64 (x.kind : Nat), .string ⟨x.text.toArray⟩, .int .i64 (x.at_ : Nat)]
def cellsT (l : List PLex.Tok) : List Value := l.flatMap tokC
theorem cellsT_snoc (l : List PLex.Tok) (x : PLex.Tok) : cellsT (l ++ [x]) = cellsT l ++ tokC x := by simp [cellsT]
theorem cellsT_len (l : List PLex.Tok) : (cellsT l).length = l.length * 3 := by
  induction l with
  | nil => rfl
  | cons x l ih => simp only [cellsT, List.flatMap_cons, List.length_append, List.length_cons] at ih ⊢; rw [ih]; simp [tokC]; omega
theorem cellsT_get : ∀ (l : List PLex.Tok) (i : Nat) (h : i < l.length), (cellsT l)[i * 3]? = some (.int .i64 (l[i].kind : Nat)) ∧ (cellsT l)[i * 3 + 1]? = some (.string ⟨l[i].text.toArray⟩) ∧ (cellsT l)[i * 3 + 2]? = some (.int .i64 (l[i].at_ : Nat))
  | [], _, h => by simp at h
  | x :: l, 0, _ => ⟨rfl, rfl, rfl⟩
  | x :: l, i + 1, h => by
    have ih := cellsT_get l i (by simpa using h)
    have e : cellsT (x :: l) = tokC x ++ cellsT l := rfl
    have h3 : (tokC x).length = 3 := rfl
    rw [e, List.getElem?_append_right (by rw [h3]; omega), List.getElem?_append_right (by rw [h3]; omega), List.getElem?_append_right (by rw [h3]; omega), h3]
    rw [show (i + 1) * 3 - 3 = i * 3 by omega, show (i + 1) * 3 + 1 - 3 = i * 3 + 1 by omega, show (i + 1) * 3 + 2 - 3 = i * 3 + 2 by omega]
    exact ih
/-- A slice that reads as a list of words. -/
def SlT (w : World) (A : Option Addr) (n : Nat) (l : List PLex.Tok) : Prop :=
  l.length = n ∧ (n = 0 ∨ ∃ b off, A = some ⟨b, off, none⟩ ∧ ∀ i (h : i < l.length), w.cell? ⟨b, off + i * 3, none⟩ = some (.int .i64 (l[i].kind : Nat)) ∧ w.cell? ⟨b, off + i * 3 + 1, none⟩ = some (.string ⟨l[i].text.toArray⟩) ∧ w.cell? ⟨b, off + i * 3 + 2, none⟩ = some (.int .i64 (l[i].at_ : Nat)))
theorem SlT.on {w w' : World} {A : Option Addr} {n : Nat} {l : List PLex.Tok} (h : SlT w A n l) (hb : Below w.heap.size w w') : SlT w' A n l := by
  obtain ⟨h1, h2⟩ := h
  refine ⟨h1, ?_⟩
  rcases h2 with h2 | ⟨b, off, h3, h4⟩
  · exact .inl h2
  · exact .inr ⟨b, off, h3, fun i hi => ⟨(hb.cell (World.block_lt_of_cell? w _ (h4 i hi).1)).trans (h4 i hi).1, (hb.cell (World.block_lt_of_cell? w _ (h4 i hi).2.1)).trans (h4 i hi).2.1, (hb.cell (World.block_lt_of_cell? w _ (h4 i hi).2.2)).trans (h4 i hi).2.2⟩⟩
theorem slt_nil (w : World) : SlT w none 0 [] := ⟨rfl, .inl rfl⟩
theorem slt_of_own {w : World} {base n : Nat} {e : TypeId} {v : Value} {l : List PLex.Tok} (h : w.ownsRow base e 3 v n (cellsT l)) (hl : l.length = n) :
    ∃ A cap, v = .slice A n cap ∧ (A = none → cap = 0) ∧ n ≤ cap ∧ SlT w A n l := by
  rcases h.2 with ⟨rfl, rfl⟩ | ⟨g, cap, cur, rfl, _, _, h1, h2, _⟩
  · obtain rfl : l = [] := List.eq_nil_of_length_eq_zero hl
    exact ⟨none, 0, rfl, fun _ => rfl, Nat.le_refl _, slt_nil w⟩
  · refine ⟨_, cap, rfl, (fun e => by cases e), h1, hl, .inr ⟨g, 0, rfl, fun i hi => ?_⟩⟩
    obtain ⟨g1, g2, g3⟩ := cellsT_get l i hi
    have c1 := h.cells (g := g) rfl (i * 3) _ g1
    have c2 := h.cells (g := g) rfl (i * 3 + 1) _ g2
    have c3 := h.cells (g := g) rfl (i * 3 + 2) _ g3
    have ad : ∀ j, (⟨g, 0, none⟩ : Addr).add j = ⟨g, j, none⟩ := fun j => by unfold Addr.add; split <;> simp_all
    rw [ad] at c1 c2 c3
    simp only [Nat.zero_add]
    exact ⟨c1, c2, c3⟩

/-- What is asked of the type of words, e, and of the type of its slices, t. -/
structure TokTy (e t : TypeId) : Prop where
  info : ∃ z, (Tryd.prog.info? e).map (fun i => (i.zero, i.size, i.bytes)) = some (some z, 3, 32) ∧ z.cells.size = 3
  under : Tryd.prog.underlying t = some (.slice e)
theorem append_tok {e t : TypeId} (T : TokTy e t) {w : World} {ops : Array Oper} {rest : List Oper} {o : Oper} {a : Act} {Q : Exit → Act → World → Prop} (hgd : o.guard = none) (s x : Operand)
    (ho : o.op = .call { callee := .builtin .append, args := #[s, x], argTypes := #[t, t] })
    (base : Nat) (v : Value) (l : List PLex.Tok) (k : Nat) (u : ByteArray) (p : Nat) (hs : a.eval s = v) (hown : w.ownsRow base e 3 v l.length (cellsT l))
    (hx : a.eval x = .slice (some ⟨w.heap.size, 0, none⟩) 1 1) (hn : l.length + 1 ≤ 100000) (hbase : base ≤ w.heap.size)
    (h : ∀ v' w', w'.ownsRow base e 3 v' (l.length + 1) (cellsT (l ++ [⟨k, u.data.toList, p⟩])) → Below base w w' → wpList Tryd.prog ops Q rest (a.put o.dst v') w') :
    wpList Tryd.prog ops Q (o :: rest) a (w.alloc (.cells #[.int .i64 (k : Nat), .string u, .int .i64 (p : Nat)] e)) := by
  obtain ⟨z, hz, hzs⟩ := T.info
  obtain ⟨i0, hi, hz0, hz1, hz2⟩ := info_parts hz
  have hu : (⟨u.data.toList.toArray⟩ : ByteArray) = u := by cases u; simp
  refine wpList_append_own_at _ hgd s x t ho base e i0 z 3 32 T.under hi hz0 hz1 hz2 hzs (by decide) v l.length _ hs (hown.alloc _) ⟨w.heap.size, 0, none⟩ 1 1 [.int .i64 (k : Nat), .string u, .int .i64 (p : Nat)] hx rfl ?_ (fun q hq => ?_) (by unfold maxLen; omega) (by omega) (by simp; omega) (fun v' w' ho' hg _ hat => h v' w' ?_ ?_)
  · intro j q hj
    match j, hj with
    | 0, hj => simp at hj; subst hj; simp [Addr.add]
    | 1, hj => simp at hj; subst hj; simp [Addr.add]
    | 2, hj => simp at hj; subst hj; simp [Addr.add]
  · simp at hq; rcases hq with rfl | rfl | rfl <;> rfl
  · rw [cellsT_snoc]; unfold tokC; simp only [hu]; exact ho'
  · exact ((Below.refl _ _).alloc hbase _).grown hg (by simp; omega) (fun k hk => (hown.lt k hk).1)
theorem ref_tokTy : TokTy 70 62 where
  info := ⟨.agg #[.int .i64 0, .string ⟨#[]⟩, .int .i64 0], by kernel_rfl, by rfl⟩
  under := by kernel_rfl
end Go.Proofs.YtnolbjaeilgjhaaDoor
