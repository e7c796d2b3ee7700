/-
  Words of a text: one step, all of them; what stands behind a word turns nothing of it. Plain facts; no program is named here.
-/
import Derived.Test.YtnolbjaeilgjhaaDoorBase
namespace PLex

def isLet (c : UInt8) : Bool := 97 ≤ c.toNat && c.toNat ≤ 122
def isDig (c : UInt8) : Bool := 48 ≤ c.toNat && c.toNat ≤ 57
def isAl (c : UInt8) : Bool := isLet c || isDig c
/-- A byte of a run that begins with a digit. -/
def isRun (c : UInt8) : Bool := isDig c || c == 46 || c == 37
def isSgn (c : UInt8) : Bool := c == 61 || c == 60 || c == 62 || c == 43 || c == 45 || c == 42 || c == 40 || c == 41 || c == 44 || c == 59
/-- A sign of two bytes. -/
def two (c : UInt8) (r : List UInt8) : Bool := match r with
  | [] => false
  | d :: _ => (c == 60 && (d == 61 || d == 62)) || (c == 62 && d == 61)
/-- What begins a text: 6: nothing that is told, so many bytes; 1 to 5: a word of that kind; 0: none. K: the kind of a run of digits. -/
def step (K : List UInt8 → Nat) : List UInt8 → Nat × Nat
  | [] => (0, 1)
  | c :: r =>
    if c = 32 ∨ c = 10 then (6, 1)
    else if c = 35 then (6, 1 + (r.takeWhile (fun d => d != 10)).length)
    else if isLet c = true then (if 1 + (r.takeWhile isAl).length < 13 then 1 else 0, 1 + (r.takeWhile isAl).length)
    else if isDig c = true then (K (c :: r.takeWhile isRun), 1 + (r.takeWhile isRun).length)
    else if isSgn c = true then (5, if two c r = true then 2 else 1)
    else (0, 1)
structure Tok where
  kind : Nat
  text : List UInt8
  at_ : Nat
deriving DecidableEq
/-- All words from a place on, and the place of the first that is none. -/
def run (K : List UInt8 → Nat) : Nat → Nat → List UInt8 → Option Nat × List Tok
  | 0, _, _ => (none, [])
  | _ + 1, _, [] => (none, [])
  | f + 1, p, c :: r =>
    if (step K (c :: r)).1 = 0 then (some p, [])
    else
      let n := (step K (c :: r)).2
      let q := run K f (p + n) ((c :: r).drop n)
      if (step K (c :: r)).1 = 6 then q else (q.1, ⟨(step K (c :: r)).1, (c :: r).take n, p⟩ :: q.2)
theorem run_nil (K : List UInt8 → Nat) (f p : Nat) : run K f p [] = (none, []) := by cases f <;> rfl

theorem takeWhile_len {p : UInt8 → Bool} : ∀ (l : List UInt8), (l.takeWhile p).length ≤ l.length
  | [] => Nat.le_refl _
  | c :: r => by
    rw [List.takeWhile_cons]
    by_cases h : p c = true
    · rw [if_pos h]; have := takeWhile_len (p := p) r; simp; omega
    · rw [if_neg h]; simp
theorem step_len (K : List UInt8 → Nat) (c : UInt8) (r : List UInt8) : 1 ≤ (step K (c :: r)).2 ∧ (step K (c :: r)).2 ≤ (c :: r).length := by
  have h1 := takeWhile_len (p := fun d => d != 10) r
  have h2 := takeWhile_len (p := isAl) r
  have h3 := takeWhile_len (p := isRun) r
  simp only [step, List.length_cons]
  (repeat' split) <;> try (simp only []; omega)
  · rename_i h
    cases r with
    | nil => cases h
    | cons d r => simp
/-- So many rounds are enough. -/
theorem run_more (K : List UInt8 → Nat) : ∀ (f g p : Nat) (l : List UInt8), l.length ≤ f → l.length ≤ g → run K f p l = run K g p l
  | f, g, p, [], _, _ => by rw [run_nil, run_nil]
  | 0, _, _, _ :: _, h, _ => by simp at h
  | _, 0, _, _ :: _, _, h => by simp at h
  | f + 1, g + 1, p, c :: r, hf, hg => by
    have hs := step_len K c r
    have hd : ((c :: r).drop (step K (c :: r)).2).length ≤ r.length := by rw [List.length_drop, List.length_cons]; omega
    simp only [List.length_cons] at hf hg
    have := run_more K f g (p + (step K (c :: r)).2) ((c :: r).drop (step K (c :: r)).2) (by omega) (by omega)
    simp only [run]
    rw [this]
/-- All words of a text. -/
def all (K : List UInt8 → Nat) (p : Nat) (l : List UInt8) : Option Nat × List Tok := run K l.length p l
theorem all_nil (K : List UInt8 → Nat) (p : Nat) : all K p [] = (none, []) := rfl
theorem all_cons (K : List UInt8 → Nat) (p : Nat) (c : UInt8) (r : List UInt8) : all K p (c :: r) =
    if (step K (c :: r)).1 = 0 then (some p, [])
    else if (step K (c :: r)).1 = 6 then all K (p + (step K (c :: r)).2) ((c :: r).drop (step K (c :: r)).2)
    else ((all K (p + (step K (c :: r)).2) ((c :: r).drop (step K (c :: r)).2)).1, ⟨(step K (c :: r)).1, (c :: r).take (step K (c :: r)).2, p⟩ :: (all K (p + (step K (c :: r)).2) ((c :: r).drop (step K (c :: r)).2)).2) := by
  have hs := step_len K c r
  have hd : ((c :: r).drop (step K (c :: r)).2).length ≤ r.length := by rw [List.length_drop, List.length_cons]; omega
  unfold all
  have := run_more K r.length ((c :: r).drop (step K (c :: r)).2).length (p + (step K (c :: r)).2) ((c :: r).drop (step K (c :: r)).2) hd (Nat.le_refl _)
  rw [List.length_cons, run]
  simp only []
  rw [this]

/-- Behind a byte that ends a run nothing turns it. -/
theorem takeWhile_sep {p : UInt8 → Bool} {b : UInt8} (hb : p b = false) (r t : List UInt8) : (r ++ b :: t).takeWhile p = r.takeWhile p := by
  induction r with
  | nil => simp [hb]
  | cons c r ih =>
    rw [List.cons_append, List.takeWhile_cons, List.takeWhile_cons, ih]
/-- A byte that ends all words: a blank, or a byte 10. -/
def Sep (b : UInt8) : Prop := isAl b = false ∧ isRun b = false ∧ b ≠ 61 ∧ b ≠ 62
theorem sep_blank : Sep 32 := by unfold Sep; decide
theorem sep_line : Sep 10 := by unfold Sep; decide
theorem two_sep {b c : UInt8} (hb : Sep b) (r t : List UInt8) : two c (r ++ b :: t) = two c r := by
  obtain ⟨_, _, h1, h2⟩ := hb
  cases r with
  | nil => simp [two, h1, h2]
  | cons d r => rfl
theorem step_sep (K : List UInt8 → Nat) {b c : UInt8} (hb : Sep b) (hc : c ≠ 35 ∨ b = 10) (r t : List UInt8) : step K (c :: (r ++ b :: t)) = step K (c :: r) := by
  have h2 := takeWhile_sep hb.1 r t
  have h3 := takeWhile_sep hb.2.1 r t
  have h4 := two_sep (c := c) hb r t
  simp only [step]
  rw [h2, h3, h4]
  by_cases h : c = 35
  · subst h
    obtain rfl : b = 10 := hc.resolve_left (fun k => k rfl)
    have h1 := takeWhile_sep (p := fun d => d != 10) (b := 10) rfl r t
    rw [h1]
  · simp only [h, if_false]
/-- Two texts, a byte 10 between: the first one's error, or the words of both. -/
theorem all_join (K : List UInt8 → Nat) : ∀ (n p : Nat) (s t : List UInt8), s.length ≤ n →
    all K p (s ++ 10 :: t) = match all K p s with
      | (some q, ts) => (some q, ts)
      | (none, ts) => ((all K (p + s.length + 1) t).1, ts ++ (all K (p + s.length + 1) t).2)
  | n, p, [], t, _ => by
    rw [all_nil, List.nil_append, all_cons]
    have h : step K (10 :: t) = (6, 1) := rfl
    rw [h]
    simp
  | 0, _, _ :: _, _, h => by simp at h
  | n + 1, p, c :: r, t, h => by
    have hs := step_len K c r
    have e := step_sep K (c := c) sep_line (.inr rfl) r t
    rw [List.cons_append, all_cons, e, all_cons K p c r]
    have hd : (c :: (r ++ 10 :: t)).drop (step K (c :: r)).2 = (c :: r).drop (step K (c :: r)).2 ++ 10 :: t := by
      rw [← List.cons_append, List.drop_append_of_le_length hs.2]
    have ht : (c :: (r ++ 10 :: t)).take (step K (c :: r)).2 = (c :: r).take (step K (c :: r)).2 := by
      rw [← List.cons_append, List.take_append_of_le_length hs.2]
    have hl : ((c :: r).drop (step K (c :: r)).2).length = r.length + 1 - (step K (c :: r)).2 := by rw [List.length_drop, List.length_cons]
    simp only [List.length_cons] at h hs
    have ih := all_join K n (p + (step K (c :: r)).2) ((c :: r).drop (step K (c :: r)).2) t (by omega)
    rw [hd, ht, ih]
    have hp : p + (step K (c :: r)).2 + ((c :: r).drop (step K (c :: r)).2).length + 1 = p + (c :: r).length + 1 := by rw [hl, List.length_cons]; omega
    rw [hp]
    generalize all K (p + (step K (c :: r)).2) ((c :: r).drop (step K (c :: r)).2) = A
    obtain ⟨a, bs⟩ := A
    by_cases h0 : (step K (c :: r)).1 = 0
    · rw [if_pos h0, if_pos h0]
    · rw [if_neg h0, if_neg h0]
      by_cases h6 : (step K (c :: r)).1 = 6
      · rw [if_pos h6, if_pos h6]
      · rw [if_neg h6, if_neg h6]
        cases a <;> rfl

/-- A word, farther on. -/
def Tok.shift (k : Nat) (x : Tok) : Tok := ⟨x.kind, x.text, x.at_ + k⟩
theorem all_shift (K : List UInt8 → Nat) : ∀ (n p k : Nat) (l : List UInt8), l.length ≤ n → all K (p + k) l = ((all K p l).1.map (· + k), (all K p l).2.map (Tok.shift k))
  | _, _, _, [], _ => rfl
  | 0, _, _, _ :: _, h => by simp at h
  | n + 1, p, k, c :: r, h => by
    have hs := step_len K c r
    simp only [List.length_cons] at h hs
    have hl : ((c :: r).drop (step K (c :: r)).2).length ≤ n := by rw [List.length_drop, List.length_cons]; omega
    have ih := all_shift K n (p + (step K (c :: r)).2) k _ hl
    rw [show p + (step K (c :: r)).2 + k = p + k + (step K (c :: r)).2 by omega] at ih
    rw [all_cons, all_cons K p, ih]
    by_cases h0 : (step K (c :: r)).1 = 0
    · rw [if_pos h0, if_pos h0]; rfl
    · rw [if_neg h0, if_neg h0]
      by_cases h6 : (step K (c :: r)).1 = 6
      · rw [if_pos h6, if_pos h6]
      · rw [if_neg h6, if_neg h6]; rfl
/-- A word by itself is that word. -/
theorem takeWhile_again {p : UInt8 → Bool} (l : List UInt8) : (l.takeWhile p).takeWhile p = l.takeWhile p := by
  induction l with
  | nil => rfl
  | cons c r ih =>
    rw [List.takeWhile_cons]
    by_cases h : p c = true
    · rw [if_pos h, List.takeWhile_cons, if_pos h, ih]
    · rw [if_neg h]; rfl
theorem take_takeWhile {p : UInt8 → Bool} (l : List UInt8) : l.take (l.takeWhile p).length = l.takeWhile p := by
  induction l with
  | nil => rfl
  | cons c r ih =>
    rw [List.takeWhile_cons]
    by_cases h : p c = true
    · rw [if_pos h]; simp [ih]
    · rw [if_neg h]; rfl
/-- What a word is: the first byte is none of a blank, a byte 10, and #. -/
theorem step_tok {K : List UInt8 → Nat} {c : UInt8} {r : List UInt8} (h0 : (step K (c :: r)).1 ≠ 0) (h6 : (step K (c :: r)).1 ≠ 6) :
    (c ≠ 32 ∧ c ≠ 10 ∧ c ≠ 35) ∧ step K ((c :: r).take (step K (c :: r)).2) = step K (c :: r) := by
  have h1 : ¬ (c = 32 ∨ c = 10) := by intro k; apply h6; simp only [step]; rw [if_pos k]
  have h2 : c ≠ 35 := by intro k; apply h6; simp only [step]; rw [if_neg h1, if_pos k]
  refine ⟨⟨fun k => h1 (.inl k), fun k => h1 (.inr k), h2⟩, ?_⟩
  simp only [step, if_neg h1, if_neg h2] at h0 h6 ⊢
  by_cases hl : isLet c = true
  · simp only [if_pos hl, Nat.add_comm 1, List.take_succ_cons, take_takeWhile]
    simp only [if_neg h1, if_neg h2, takeWhile_again]
  · by_cases hd : isDig c = true
    · simp only [if_neg hl, if_pos hd, Nat.add_comm 1, List.take_succ_cons, take_takeWhile]
      simp only [if_neg h1, if_neg h2, takeWhile_again]
    · by_cases hg : isSgn c = true
      · simp only [if_neg hl, if_neg hd, if_pos hg]
        by_cases ht : two c r = true
        · rw [if_pos ht]
          cases r with
          | nil => cases ht
          | cons d r =>
            have ht' : two c [d] = true := ht
            simp only [List.take_succ_cons, List.take_zero, if_neg h1, if_neg h2, if_neg hl, if_neg hd, if_pos hg, if_pos ht']
        · rw [if_neg ht]
          have ht' : ¬ two c [] = true := by simp [two]
          simp only [List.take_succ_cons, List.take_zero, if_neg h1, if_neg h2, if_neg hl, if_neg hd, if_pos hg, if_neg ht']
      · simp only [if_neg hl, if_neg hd, if_neg hg] at h0
        exact absurd rfl h0
end PLex
