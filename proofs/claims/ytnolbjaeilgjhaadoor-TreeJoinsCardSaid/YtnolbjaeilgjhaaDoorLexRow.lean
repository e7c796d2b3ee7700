/-
  What lex.All answers, as a relation: words, or the place of what is none; a list of words in memory, read at a place.
-/
import Derived.Test.YtnolbjaeilgjhaaDoorTokRows
import Derived.Test.YtnolbjaeilgjhaaDoorRef07Kind
namespace PLex
theorem all_sum {K : List UInt8 → Nat} : ∀ (n p : Nat) (l : List UInt8), l.length ≤ n → (((all K p l).2.map (fun x => x.text.length)).sum ≤ l.length)
  | _, _, [], _ => by simp [all_nil]
  | 0, _, _ :: _, h => by simp at h
  | n + 1, p, c :: r, h => by
    obtain ⟨s1, s2⟩ := step_len K c r
    have h' : r.length + 1 ≤ n + 1 := h
    have hl : ((c :: r).drop (step K (c :: r)).2).length ≤ n := by rw [List.length_drop]; omega
    have ih := all_sum (K := K) n (p + (step K (c :: r)).2) _ hl
    rw [List.length_drop] at ih
    rw [all_cons]
    by_cases h0 : (step K (c :: r)).1 = 0
    · rw [if_pos h0]; simp
    · rw [if_neg h0]
      by_cases h6 : (step K (c :: r)).1 = 6
      · rw [if_pos h6]; omega
      · rw [if_neg h6]
        simp only [List.map_cons, List.sum_cons, List.length_take]
        omega
theorem sum_len {l : List Tok} (h : ∀ x ∈ l, x.text ≠ []) : l.length ≤ (l.map (fun x => x.text.length)).sum := by
  induction l with
  | nil => simp
  | cons x l ih =>
    have h1 := ih (fun y hy => h y (List.mem_cons_of_mem _ hy))
    have h2 := List.length_pos_iff.2 (h x (List.mem_cons_self ..))
    simp only [List.length_cons, List.map_cons, List.sum_cons]; omega
theorem Lone.ne {K : List UInt8 → Nat} {k : Nat} {u : List UInt8} (h : Lone K k u) : u ≠ [] := by
  obtain ⟨c, r, rfl, _⟩ := h; exact List.cons_ne_nil _ _
theorem blanks_len (l : List Tok) : (blanks l).length = (l.map (fun x => x.text.length)).sum + l.length := by
  induction l with
  | nil => rfl
  | cons x l ih => simp only [blanks, List.flatMap_cons, List.length_append, List.map_cons, List.sum_cons, List.length_cons, List.length_nil] at ih ⊢; omega
theorem lines_len (l : List Tok) : (linesOf l).length = (l.map (fun x => x.text.length)).sum + 10 * l.length := by
  induction l with
  | nil => rfl
  | cons x l ih => simp only [linesOf, lineOf, List.flatMap_cons, List.length_append, List.map_cons, List.sum_cons, List.length_cons, List.length_nil] at ih ⊢; omega
theorem blanks_next {l : List Tok} {i : Nat} (h : i < l.length) : blanks (l.take (i + 1)) = blanks (l.take i) ++ l[i].text ++ [32] := by
  rw [List.take_succ_eq_append_getElem h, blanks, List.flatMap_append]; simp [blanks]
theorem lines_next {l : List Tok} {i : Nat} (h : i < l.length) : linesOf (l.take (i + 1)) = linesOf (l.take i) ++ lineOf l[i] := by
  rw [List.take_succ_eq_append_getElem h, linesOf, List.flatMap_append]; simp [linesOf]
theorem blanks_le (l : List Tok) (i : Nat) : (blanks (l.take i)).length ≤ (blanks l).length := by
  have e : blanks l = blanks (l.take i) ++ blanks (l.drop i) := by unfold blanks; rw [← List.flatMap_append, List.take_append_drop]
  rw [e, List.length_append]; omega
theorem lines_le (l : List Tok) (i : Nat) : (linesOf (l.take i)).length ≤ (linesOf l).length := by
  have e : linesOf l = linesOf (l.take i) ++ linesOf (l.drop i) := by unfold linesOf; rw [← List.flatMap_append, List.take_append_drop]
  rw [e, List.length_append]; omega
/-- What is wrong stands in the text. -/
theorem all_place {K : List UInt8 → Nat} : ∀ (n p : Nat) (l : List UInt8), l.length ≤ n → ∀ q, (all K p l).1 = some q → p ≤ q ∧ q < p + l.length
  | _, _, [], _, q, h => by simp [all_nil] at h
  | 0, _, _ :: _, h, _, _ => by simp at h
  | n + 1, p, c :: r, h, q, hq => by
    obtain ⟨s1, s2⟩ := step_len K c r
    have h' : r.length + 1 ≤ n + 1 := h
    have hl : ((c :: r).drop (step K (c :: r)).2).length ≤ n := by rw [List.length_drop]; omega
    have ih := all_place (K := K) n (p + (step K (c :: r)).2) _ hl q
    rw [List.length_drop] at ih
    rw [all_cons] at hq
    by_cases h0 : (step K (c :: r)).1 = 0
    · rw [if_pos h0] at hq
      obtain rfl : p = q := Option.some.inj hq
      exact ⟨Nat.le_refl _, by rw [List.length_cons]; omega⟩
    · rw [if_neg h0] at hq
      by_cases h6 : (step K (c :: r)).1 = 6
      · rw [if_pos h6] at hq; have := ih hq; omega
      · rw [if_neg h6] at hq; have := ih hq; omega
theorem placed_at {l : List UInt8} : ∀ {xs : List Tok} {p e : Nat}, Placed l p e xs → ∀ (i : Nat) (h : i < xs.length), xs[i].at_ + xs[i].text.length ≤ p + l.length
  | [], _, _, _, _, h => by simp at h
  | x :: xs, _, _, h, 0, _ => h.2.2.1
  | x :: xs, _, _, h, i + 1, hi => placed_at h.2.2.2.2.2 i (by simpa using hi)
theorem Same.len {a b : List Tok} (h : Same a b) : a.length = b.length := by have := congrArg List.length h; simpa using this
theorem Same.at {a b : List Tok} (h : Same a b) {i : Nat} (h1 : i < a.length) (h2 : i < b.length) : a[i].kind = b[i].kind ∧ a[i].text = b[i].text := by
  have k := congrArg (fun l => l[i]?) h
  simp only [List.getElem?_map, List.getElem?_eq_getElem h1, List.getElem?_eq_getElem h2, Option.map_some, Option.some.injEq, Prod.mk.injEq] at k
  exact k
end PLex
namespace Go.Proofs.YtnolbjaeilgjhaaDoor
open Go.RowKit

theorem below_drewT {B : Nat} {a w : World} (h : Below B a w) (n : Nat) : Below B a (w.drewN n) := ⟨h.os, h.tape, h.output, h.size, h.block⟩
/-- What is answered of a text: a slice of words, a place, an error. -/
def LexAns (r : Option Nat × List PLex.Tok) (w : World) (e : Ending) (w' : World) : Prop :=
  ∃ A n cap, e = .returned (.tuple #[.slice A n cap, .int .i64 (match r.1 with | some q => (q : Int) | none => 0), .int .i64 (match r.1 with | some _ => 2 | none => 0)]) ∧ (A = none → cap = 0) ∧ n ≤ cap ∧ SlT w' A n (if r.1.isSome = true then [] else r.2) ∧ Below w.heap.size w w' ∧ (r.1 = none → w'.ownsRow w.heap.size 48 3 (.slice A n cap) n (cellsT r.2))
theorem LexAns.bad {r : Option Nat × List PLex.Tok} {w : World} {e : Ending} {w' : World} (h : LexAns r w e w') {q : Nat} (hq : r.1 = some q) :
    ∃ A cap, e = .returned (.tuple #[.slice A 0 cap, .int .i64 q, .int .i64 2]) ∧ Below w.heap.size w w' := by
  obtain ⟨A, n, cap, rfl, _, _, h3, h4, _⟩ := h
  rw [hq] at h3 ⊢
  obtain rfl : 0 = n := h3.1
  exact ⟨A, cap, rfl, h4⟩
theorem LexAns.ok {r : Option Nat × List PLex.Tok} {w : World} {e : Ending} {w' : World} (h : LexAns r w e w') (hq : r.1 = none) :
    ∃ A cap, e = .returned (.tuple #[.slice A r.2.length cap, .int .i64 0, .int .i64 0]) ∧ SlT w' A r.2.length r.2 ∧ Below w.heap.size w w' := by
  obtain ⟨A, n, cap, rfl, _, _, h3, h4, _⟩ := h
  rw [hq] at h3 ⊢
  obtain rfl : r.2.length = n := h3.1
  exact ⟨A, cap, rfl, h3, h4⟩
theorem LexAns.own {r : Option Nat × List PLex.Tok} {w : World} {e : Ending} {w' : World} (h : LexAns r w e w') (hq : r.1 = none) :
    ∃ A cap, e = .returned (.tuple #[.slice A r.2.length cap, .int .i64 0, .int .i64 0]) ∧ w'.ownsRow w.heap.size 48 3 (.slice A r.2.length cap) r.2.length (cellsT r.2) ∧ Below w.heap.size w w' := by
  obtain ⟨A, n, cap, rfl, _, _, h3, h4, h5⟩ := h
  have h6 := h5 hq
  rw [hq] at h3 ⊢
  obtain rfl : r.2.length = n := h3.1
  exact ⟨A, cap, rfl, h6, h4⟩
theorem text_eq {a : ByteArray} {l : List UInt8} (h : a.data.toList = l) : a = ⟨l.toArray⟩ := by
  cases a; subst h; simp
theorem SlT.at {w : World} {A : Option Addr} {n : Nat} {l : List PLex.Tok} (h : SlT w A n l) {i : Nat} (hi : i < n) :
    ∃ b off, A = some ⟨b, off, none⟩ ∧ ∀ i (h : i < l.length), w.cell? ⟨b, off + i * 3, none⟩ = some (.int .i64 (l[i].kind : Nat)) ∧ w.cell? ⟨b, off + i * 3 + 1, none⟩ = some (.string ⟨l[i].text.toArray⟩) ∧ w.cell? ⟨b, off + i * 3 + 2, none⟩ = some (.int .i64 (l[i].at_ : Nat)) := by
  rcases h.2 with h | h
  · omega
  · exact h
end Go.Proofs.YtnolbjaeilgjhaaDoor
