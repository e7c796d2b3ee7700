/-
  Words of a text: each is a word by itself; one blank apart, and in lines, they are the words; their places. Plain facts.
-/
import Derived.Test.YtnolbjaeilgjhaaDoorLexMath
namespace PLex

/-- A word that stands by itself. -/
def Lone (K : List UInt8 → Nat) (k : Nat) (u : List UInt8) : Prop := ∃ c r, u = c :: r ∧ step K u = (k, u.length) ∧ (k ≠ 0 ∧ k ≠ 6) ∧ c ≠ 35
theorem lone_of {K : List UInt8 → Nat} {c : UInt8} {r : List UInt8} (h0 : (step K (c :: r)).1 ≠ 0) (h6 : (step K (c :: r)).1 ≠ 6) : Lone K (step K (c :: r)).1 ((c :: r).take (step K (c :: r)).2) := by
  obtain ⟨⟨_, _, h3⟩, h4⟩ := step_tok h0 h6
  obtain ⟨s1, s2⟩ := step_len K c r
  obtain ⟨n, hn⟩ : ∃ n, (step K (c :: r)).2 = n + 1 := ⟨(step K (c :: r)).2 - 1, by omega⟩
  refine ⟨c, r.take n, by rw [hn, List.take_succ_cons], ?_, ⟨h0, h6⟩, h3⟩
  rw [h4, List.length_take, Nat.min_eq_left s2]
theorem all_lone {K : List UInt8 → Nat} : ∀ (n p : Nat) (l : List UInt8), l.length ≤ n → ∀ x ∈ (all K p l).2, Lone K x.kind x.text
  | _, _, [], _, x, hx => by simp [all_nil] at hx
  | 0, _, _ :: _, h, _, _ => by simp at h
  | n + 1, p, c :: r, h, x, hx => by
    have hs := step_len K c r
    simp only [List.length_cons] at h hs
    have hl : ((c :: r).drop (step K (c :: r)).2).length ≤ n := by rw [List.length_drop, List.length_cons]; omega
    have ih := all_lone (K := K) n (p + (step K (c :: r)).2) _ hl x
    rw [all_cons] at hx
    by_cases h0 : (step K (c :: r)).1 = 0
    · rw [if_pos h0] at hx; cases hx
    · rw [if_neg h0] at hx
      by_cases h6 : (step K (c :: r)).1 = 6
      · rw [if_pos h6] at hx; exact ih hx
      · rw [if_neg h6] at hx
        rcases List.mem_cons.1 hx with rfl | hx
        · exact lone_of h0 h6
        · exact ih hx
/-- A lone word, by itself and ahead of a blank or a byte 10. -/
theorem all_self {K : List UInt8 → Nat} {k : Nat} {u : List UInt8} (h : Lone K k u) (p : Nat) : all K p u = (none, [⟨k, u, p⟩]) := by
  obtain ⟨c, r, rfl, hs, ⟨h0, h6⟩, _⟩ := h
  rw [all_cons, hs]
  simp only [if_neg h0, if_neg h6, List.drop_length, List.take_length, all_nil]
theorem all_word {K : List UInt8 → Nat} {k : Nat} {u : List UInt8} (h : Lone K k u) {b : UInt8} (hb : Sep b) (p : Nat) (t : List UInt8) : all K p (u ++ b :: t) = ((all K (p + u.length) (b :: t)).1, ⟨k, u, p⟩ :: (all K (p + u.length) (b :: t)).2) := by
  obtain ⟨c, r, rfl, hs, ⟨h0, h6⟩, hc⟩ := h
  have e := step_sep K (c := c) hb (.inl hc) r t
  rw [hs] at e
  rw [List.cons_append, all_cons, e]
  simp only [if_neg h0, if_neg h6]
  rw [← List.cons_append, List.drop_left, List.take_left]
theorem all_blank (K : List UInt8 → Nat) (p : Nat) (t : List UInt8) : all K p (32 :: t) = all K (p + 1) t := by
  rw [all_cons, show step K (32 :: t) = (6, 1) from rfl]; rfl
theorem all_line (K : List UInt8 → Nat) (p : Nat) (t : List UInt8) : all K p (10 :: t) = all K (p + 1) t := by
  rw [all_cons, show step K (10 :: t) = (6, 1) from rfl]; rfl
theorem takeWhile_all {p : UInt8 → Bool} : ∀ {r : List UInt8}, (∀ x ∈ r, p x = true) → r.takeWhile p = r
  | [], _ => rfl
  | c :: r, h => by rw [List.takeWhile_cons, if_pos (h c (List.mem_cons_self ..)), takeWhile_all (fun x hx => h x (List.mem_cons_of_mem _ hx))]
/-- A comment, up to its byte 10. -/
theorem all_comment (K : List UInt8 → Nat) (p : Nat) {r : List UInt8} (hr : ∀ x ∈ r, (x != 10) = true) (t : List UInt8) : all K p (35 :: (r ++ 10 :: t)) = all K (p + r.length + 2) t := by
  have e : step K (35 :: (r ++ 10 :: t)) = (6, 1 + r.length) := by
    simp only [step]
    rw [if_neg (by decide), if_pos trivial, takeWhile_sep (p := fun d => d != 10) rfl, takeWhile_all hr]
  rw [all_cons, e]
  have hd : (35 :: (r ++ 10 :: t)).drop (1 + r.length) = 10 :: t := by
    rw [Nat.add_comm, List.drop_succ_cons, List.drop_left]
  simp only [hd]
  rw [if_neg (by omega), if_pos trivial, all_line]
  congr 1; omega
/-- The same words, wherever they stand. -/
def Same (a b : List Tok) : Prop := a.map (fun x => (x.kind, x.text)) = b.map (fun x => (x.kind, x.text))
/-- One blank behind each. -/
def blanks (l : List Tok) : List UInt8 := l.flatMap (fun x => x.text ++ [32])
theorem all_blanks {K : List UInt8 → Nat} : ∀ (l : List Tok) (p : Nat), (∀ x ∈ l, Lone K x.kind x.text) → (all K p (blanks l)).1 = none ∧ Same (all K p (blanks l)).2 l
  | [], _, _ => ⟨rfl, rfl⟩
  | x :: l, p, h => by
    have e : blanks (x :: l) = x.text ++ 32 :: blanks l := by simp [blanks]
    obtain ⟨h1, h2⟩ := all_blanks l (p + x.text.length + 1) (fun y hy => h y (List.mem_cons_of_mem _ hy))
    rw [e, all_word (h x (List.mem_cons_self ..)) sep_blank, all_blank]
    refine ⟨h1, ?_⟩
    unfold Same at h2 ⊢
    simp [h2]
/-- A line each, a comment behind it. -/
def lineOf (x : Tok) : List UInt8 := [10, 32, 32] ++ x.text ++ [32, 35, 32, 61, 32, 63, 10]
def linesOf (l : List Tok) : List UInt8 := l.flatMap lineOf
theorem all_lines {K : List UInt8 → Nat} : ∀ (l : List Tok) (p : Nat), (∀ x ∈ l, Lone K x.kind x.text) → (all K p (linesOf l)).1 = none ∧ Same (all K p (linesOf l)).2 l
  | [], _, _ => ⟨rfl, rfl⟩
  | x :: l, p, h => by
    have e : linesOf (x :: l) = 10 :: 32 :: 32 :: (x.text ++ 32 :: 35 :: ([32, 61, 32, 63] ++ 10 :: linesOf l)) := by simp [linesOf, lineOf]
    rw [e, all_line, all_blank, all_blank, all_word (h x (List.mem_cons_self ..)) sep_blank, all_blank, all_comment K _ (by decide)]
    generalize p + 1 + 1 + 1 + x.text.length + 1 + [32, 61, 32, 63].length + 2 = q
    obtain ⟨h1, h2⟩ := all_lines l q (fun y hy => h y (List.mem_cons_of_mem _ hy))
    refine ⟨h1, ?_⟩
    unfold Same at h2 ⊢
    simp [h2]
/-- .. behind a comment. -/
theorem all_lines' {K : List UInt8 → Nat} (l : List Tok) (h : ∀ x ∈ l, Lone K x.kind x.text) : (all K 0 ([35, 32, 97, 108, 108, 10] ++ linesOf l)).1 = none ∧ Same (all K 0 ([35, 32, 97, 108, 108, 10] ++ linesOf l)).2 l := by
  have e : [35, 32, 97, 108, 108, 10] ++ linesOf l = 35 :: ([32, 97, 108, 108] ++ 10 :: linesOf l) := rfl
  rw [e, all_comment K _ (by decide)]
  exact all_lines l _ h
/-- Places: each word stands behind the one ahead, in the text. -/
def Placed (l : List UInt8) : Nat → Nat → List Tok → Prop
  | _, _, [] => True
  | p, e, x :: xs => e ≤ x.at_ ∧ x.text ≠ [] ∧ x.at_ + x.text.length ≤ p + l.length ∧ (l.drop (x.at_ - p)).take x.text.length = x.text ∧ p ≤ x.at_ ∧ Placed l p (x.at_ + x.text.length) xs
theorem Placed.less {l : List UInt8} {p e e' : Nat} {xs : List Tok} (h : Placed l p e xs) (he : e' ≤ e) : Placed l p e' xs := by
  cases xs with
  | nil => trivial
  | cons x xs => obtain ⟨h1, h2, h3, h4, h5, h6⟩ := h; exact ⟨by omega, h2, h3, h4, h5, h6⟩
theorem Placed.drop {l : List UInt8} {p n : Nat} (hn : n ≤ l.length) : ∀ {xs : List Tok} {e : Nat}, Placed (l.drop n) (p + n) e xs → Placed l p e xs
  | [], _, _ => trivial
  | x :: xs, e, ⟨h1, h2, h3, h4, h5, h6⟩ => by
    rw [List.length_drop] at h3
    rw [List.drop_drop] at h4
    exact ⟨h1, h2, by omega, by rw [← h4]; congr 2; congr 1; omega, by omega, Placed.drop hn h6⟩
theorem all_placed {K : List UInt8 → Nat} : ∀ (n p : Nat) (l : List UInt8), l.length ≤ n → Placed l p p (all K p l).2
  | _, _, [], _ => trivial
  | 0, _, _ :: _, h => by simp at h
  | n + 1, p, c :: r, h => by
    obtain ⟨s1, s2⟩ := step_len K c r
    have h' : r.length + 1 ≤ n + 1 := h
    have hl : ((c :: r).drop (step K (c :: r)).2).length ≤ n := by rw [List.length_drop]; omega
    have ih := Placed.drop s2 (all_placed (K := K) n (p + (step K (c :: r)).2) _ hl)
    rw [all_cons]
    by_cases h0 : (step K (c :: r)).1 = 0
    · rw [if_pos h0]; trivial
    · rw [if_neg h0]
      by_cases h6 : (step K (c :: r)).1 = 6
      · rw [if_pos h6]; exact ih.less (by omega)
      · rw [if_neg h6]
        have e : ((c :: r).take (step K (c :: r)).2).length = (step K (c :: r)).2 := by rw [List.length_take, Nat.min_eq_left s2]
        refine ⟨Nat.le_refl _, fun k => ?_, ?_, ?_, Nat.le_refl _, ?_⟩
        · have k2 : ((c :: r).take (step K (c :: r)).2).length = 0 := congrArg List.length k
          rw [e] at k2; omega
        · simp only []; rw [e]; omega
        · simp only []; rw [e, Nat.sub_self, List.drop_zero]
        · simp only []; rw [e]; exact ih
end PLex
