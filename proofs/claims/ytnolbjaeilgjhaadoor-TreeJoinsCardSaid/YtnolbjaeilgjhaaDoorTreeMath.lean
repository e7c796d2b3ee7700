/-
  Rules as trees: what a text of tokens is read to, or the place of what is wrong. Plain facts; no program is named here.
-/
import Derived.Test.YtnolbjaeilgjhaaDoorLexMath2
import Derived.Test.YtnolbjaeilgjhaaDoorRef07Kind
namespace PTree
open PLex (Tok)

/-- An expression, as a tree. -/
inductive Tr where
  | whole (n : Nat) | amount (n : Int) | rate (n : Int) | name (s : List UInt8)
  | neg (a : Tr) | bin (op : List UInt8) (a b : Tr) | cond (a b c : Tr)
deriving DecidableEq
/-- A row of a program. -/
structure Ex where
  op : List UInt8
  name : List UInt8
  value : Int
  a : Nat
  b : Nat
  c : Nat
deriving DecidableEq
def Tr.size : Tr → Nat
  | .whole _ => 1 | .amount _ => 1 | .rate _ => 1 | .name _ => 1
  | .neg a => a.size + 1 | .bin _ a b => a.size + b.size + 1 | .cond a b c => a.size + b.size + c.size + 1
/-- The rows of an expression, the first one at o. -/
def Tr.flat : Tr → Nat → List Ex
  | .whole n, _ => [⟨[119, 104, 111, 108, 101], [], n, 0, 0, 0⟩]
  | .amount n, _ => [⟨[97, 109, 111, 117, 110, 116], [], n, 0, 0, 0⟩]
  | .rate n, _ => [⟨[114, 97, 116, 101], [], n, 0, 0, 0⟩]
  | .name s, _ => [⟨[110, 97, 109, 101], s, 0, 0, 0, 0⟩]
  | .neg a, o => a.flat o ++ [⟨[110, 101, 103], [], 0, o + a.size - 1, 0, 0⟩]
  | .bin op a b, o => a.flat o ++ b.flat (o + a.size) ++ [⟨op, [], 0, o + a.size - 1, o + a.size + b.size - 1, 0⟩]
  | .cond a b c, o => a.flat o ++ b.flat (o + a.size) ++ c.flat (o + a.size + b.size) ++ [⟨[105, 102], [], 0, o + a.size - 1, o + a.size + b.size - 1, o + a.size + b.size + c.size - 1⟩]
theorem Tr.size_pos (t : Tr) : 1 ≤ t.size := by cases t <;> simp [Tr.size]
theorem Tr.flat_len (t : Tr) : ∀ o, (t.flat o).length = t.size := by
  induction t with
  | whole n => intro o; rfl
  | amount n => intro o; rfl
  | rate n => intro o; rfl
  | name s => intro o; rfl
  | neg a ih => intro o; simp [Tr.flat, Tr.size, ih]
  | bin op a b iha ihb => intro o; simp [Tr.flat, Tr.size, iha, ihb]; omega
  | cond a b c iha ihb ihc => intro o; simp [Tr.flat, Tr.size, iha, ihb, ihc]; omega

/-- What reading answers: an error and its place, or the tokens left. -/
inductive R (α : Type) where
  | bad (e p : Nat)
  | ok (ts : List Tok) (a : α)
deriving DecidableEq
def R.next {α β : Type} : Option (R α) → (List Tok → α → Option (R β)) → Option (R β)
  | none, _ => none
  | some (.bad e p), _ => some (.bad e p)
  | some (.ok ts a), k => k ts a
/-- The text of the next token, if it is a word or a sign. -/
def textOf : List Tok → List UInt8
  | [] => []
  | t :: _ => if t.kind = 1 ∨ t.kind = 5 then t.text else []
/-- The place of the next token; en: of the end. -/
def placeOf (en : Nat) : List Tok → Nat
  | [] => en
  | t :: _ => t.at_
def must (en : Nat) (s : List UInt8) (ts : List Tok) : Option (R Unit) := if textOf ts = s then some (.ok ts.tail ()) else some (.bad 2 (placeOf en ts))
/-- The signs of a level. -/
def level : Nat → List (List UInt8)
  | 0 => [[60], [60, 61], [61], [60, 62], [62], [62, 61]]
  | 1 => [[43], [45]]
  | _ => [[42]]
def kinds : List (List UInt8) := [[101, 97, 114, 110], [112, 114, 101, 116, 97, 120], [112, 111, 115, 116], [108, 101, 116]]
def takenL : List (List UInt8) := [[101, 97, 114, 110], [112, 114, 101, 116, 97, 120], [112, 111, 115, 116], [108, 101, 116], [105, 102], [116, 104, 101, 110], [101, 108, 115, 101], [109, 105, 110], [109, 97, 120]]
def numOf (l : List UInt8) : Nat := l.foldl (fun n c => 10 * n + (c.toNat - 48)) 0
/-- A token that is an expression by itself. -/
def leaf (t : Tok) : Option Tr :=
  if t.kind = 1 then (if t.text ∈ takenL then none else some (.name t.text))
  else if t.kind = 2 then some (.whole (numOf t.text))
  else if t.kind = 3 then some (.amount ((PMoney.parse t.text).getD 0))
  else if t.kind = 4 then some (.rate ((PRate.parse t.text).getD 0))
  else none
/-- What is to be read: an expression; a chain of a level, from its first part, or behind one; a factor. -/
inductive Md where
  | whole | chain (n : Nat) | more (n : Nat) (t : Tr) | factor
/-- One step of reading, by what reads the parts. -/
def body (en : Nat) (X : Md → Nat → List Tok → Option (R Tr)) : Md → Nat → List Tok → Option (R Tr)
  | .whole, d, ts =>
    if 20 < d then some (.bad 9 (placeOf en ts))
    else if textOf ts = [105, 102] then
      R.next (X .whole (d + 1) ts.tail) fun t1 a => R.next (must en [116, 104, 101, 110] t1) fun t2 _ =>
      R.next (X .whole (d + 1) t2) fun t3 b => R.next (must en [101, 108, 115, 101] t3) fun t4 _ =>
      R.next (X .whole (d + 1) t4) fun t5 c => some (.ok t5 (.cond a b c))
    else X (.chain 0) d ts
  | .chain n, d, ts =>
    if 3 ≤ n then X .factor d ts
    else R.next (X (.chain (n + 1)) d ts) fun t1 a => X (.more n a) d t1
  | .more n a, d, ts =>
    if textOf ts ∈ level n then
      R.next (X (.chain (n + 1)) d ts.tail) fun t1 b => if n = 0 then some (.ok t1 (.bin (textOf ts) a b)) else X (.more n (.bin (textOf ts) a b)) d t1
    else some (.ok ts a)
  | .factor, d, ts =>
    if 20 < d then some (.bad 9 (placeOf en ts))
    else if textOf ts = [45] then R.next (X .factor (d + 1) ts.tail) fun t1 a => some (.ok t1 (.neg a))
    else if textOf ts = [40] then R.next (X .whole (d + 1) ts.tail) fun t1 a => R.next (must en [41] t1) fun t2 _ => some (.ok t2 a)
    else if textOf ts = [109, 105, 110] ∨ textOf ts = [109, 97, 120] then
      R.next (must en [40] ts.tail) fun t1 _ => R.next (X .whole (d + 1) t1) fun t2 a => R.next (must en [44] t2) fun t3 _ =>
      R.next (X .whole (d + 1) t3) fun t4 b => R.next (must en [41] t4) fun t5 _ => some (.ok t5 (.bin (textOf ts) a b))
    else match ts with
      | [] => some (.bad 2 en)
      | t :: r => match leaf t with
        | none => some (.bad 2 t.at_)
        | some x => some (.ok r x)
def run (en : Nat) : Nat → Md → Nat → List Tok → Option (R Tr)
  | 0 => fun _ _ _ => none
  | f + 1 => body en (run en f)

/-- What answers more, answers the same. -/
def Les (X Y : Md → Nat → List Tok → Option (R Tr)) : Prop := ∀ m d ts r, X m d ts = some r → Y m d ts = some r
theorem next_les {α β : Type} {x y : Option (R α)} {k l : List Tok → α → Option (R β)} {r : R β} (h : ∀ r, x = some r → y = some r) (hk : ∀ ts a r, k ts a = some r → l ts a = some r) (e : R.next x k = some r) : R.next y l = some r := by
  cases x with
  | none => cases e
  | some x =>
    rw [h x rfl]
    cases x with
    | bad e' p => exact e
    | ok ts a => exact hk ts a r e
theorem body_les {en : Nat} {X Y : Md → Nat → List Tok → Option (R Tr)} (h : Les X Y) : Les (body en X) (body en Y) := by
  intro m d ts r e
  cases m with
  | whole =>
    simp only [body] at e ⊢
    by_cases h1 : 20 < d
    · rw [if_pos h1] at e ⊢; exact e
    rw [if_neg h1] at e ⊢
    by_cases h2 : textOf ts = [105, 102]
    · rw [if_pos h2] at e ⊢
      exact next_les (h _ _ _) (fun _ _ _ => next_les (fun _ e => e) (fun _ _ _ => next_les (h _ _ _) (fun _ _ _ => next_les (fun _ e => e) (fun _ _ _ => next_les (h _ _ _) (fun _ _ _ e => e))))) e
    · rw [if_neg h2] at e ⊢; exact h _ _ _ _ e
  | chain n =>
    simp only [body] at e ⊢
    by_cases h1 : 3 ≤ n
    · rw [if_pos h1] at e ⊢; exact h _ _ _ _ e
    · rw [if_neg h1] at e ⊢
      exact next_les (h _ _ _) (fun _ _ _ => h _ _ _ _) e
  | more n a =>
    simp only [body] at e ⊢
    by_cases h1 : textOf ts ∈ level n
    · rw [if_pos h1] at e ⊢
      refine next_les (h _ _ _) (fun _ _ _ e => ?_) e
      by_cases h2 : n = 0
      · rw [if_pos h2] at e ⊢; exact e
      · rw [if_neg h2] at e ⊢; exact h _ _ _ _ e
    · rw [if_neg h1] at e ⊢; exact e
  | factor =>
    simp only [body] at e ⊢
    by_cases h1 : 20 < d
    · rw [if_pos h1] at e ⊢; exact e
    rw [if_neg h1] at e ⊢
    by_cases h2 : textOf ts = [45]
    · rw [if_pos h2] at e ⊢
      exact next_les (h _ _ _) (fun _ _ _ e => e) e
    rw [if_neg h2] at e ⊢
    by_cases h3 : textOf ts = [40]
    · rw [if_pos h3] at e ⊢
      exact next_les (h _ _ _) (fun _ _ _ e => e) e
    rw [if_neg h3] at e ⊢
    by_cases h4 : textOf ts = [109, 105, 110] ∨ textOf ts = [109, 97, 120]
    · rw [if_pos h4] at e ⊢
      exact next_les (fun _ e => e) (fun _ _ _ => next_les (h _ _ _) (fun _ _ _ => next_les (fun _ e => e) (fun _ _ _ => next_les (h _ _ _) (fun _ _ _ e => e)))) e
    rw [if_neg h4] at e ⊢; exact e
theorem run_next (en : Nat) : ∀ f, Les (run en f) (run en (f + 1))
  | 0 => fun _ _ _ _ e => by cases e
  | f + 1 => body_les (run_next en f)
theorem run_more {en f g : Nat} (h : f ≤ g) : Les (run en f) (run en g) := by
  induction g with
  | zero => obtain rfl : f = 0 := by omega
            exact fun _ _ _ _ e => e
  | succ g ih =>
    by_cases e : f = g + 1
    · subst e; exact fun _ _ _ _ e => e
    · exact fun m d ts r e => run_next en g _ _ _ _ (ih (by omega) m d ts r e)
theorem tail_len {ts : List Tok} (h : textOf ts ≠ []) : ts.tail.length + 1 = ts.length := by
  cases ts with
  | nil => exact absurd rfl h
  | cons t r => rfl
theorem level_ne {n : Nat} {s : List UInt8} (h : s ∈ level n) : s ≠ [] := by
  rintro rfl
  match n, h with
  | 0, h => simp [level] at h
  | 1, h => simp [level] at h
  | n + 2, h => simp [level] at h
/-- How much is left to do. -/
def Md.c : Md → Nat
  | .whole => 9 | .chain n => if n = 0 then 8 else if n = 1 then 7 else if n = 2 then 6 else 5 | .factor => 4 | .more _ _ => 3
theorem chain_c (n : Nat) : (Md.chain n).c ≤ 8 := by
  simp only [Md.c]
  by_cases h0 : n = 0
  · rw [if_pos h0]; omega
  rw [if_neg h0]
  by_cases h1 : n = 1
  · rw [if_pos h1]; omega
  rw [if_neg h1]
  by_cases h2 : n = 2
  · rw [if_pos h2]; omega
  rw [if_neg h2]; omega
def Md.takes : Md → Nat
  | .more _ _ => 0 | _ => 1
/-- What is answered leaves no more tokens, and has taken one, but for what is behind a part. -/
def Good (k n : Nat) {α : Type} (x : Option (R α)) : Prop := ∃ r, x = some r ∧ ∀ ts a, r = .ok ts a → ts.length + k ≤ n
theorem Good.next {α β : Type} {x : Option (R α)} {k : List Tok → α → Option (R β)} {i n j m : Nat} (h : Good i n x) (hk : ∀ ts a, ts.length + i ≤ n → Good j m (k ts a)) : Good j m (R.next x k) := by
  obtain ⟨r, rfl, hr⟩ := h
  cases r with
  | bad e p => exact ⟨_, rfl, fun ts a e => by cases e⟩
  | ok ts a => exact hk ts a (hr ts a rfl)
theorem Good.bad {α : Type} {j m e p : Nat} : Good j m (some (R.bad (α := α) e p)) := ⟨_, rfl, fun ts a e => by cases e⟩
theorem Good.ok {α : Type} {j m : Nat} {ts : List Tok} {a : α} (h : ts.length + j ≤ m) : Good j m (some (R.ok ts a)) := ⟨_, rfl, fun ts' a' e => by cases e; exact h⟩
theorem Good.less {α : Type} {i n j m : Nat} {x : Option (R α)} (h : Good i n x) (hm : n + j ≤ m + i) : Good j m x := by
  obtain ⟨r, hx, hr⟩ := h
  exact ⟨r, hx, fun ts a e => by have := hr ts a e; omega⟩
theorem must_good {en : Nat} {s : List UInt8} (hs : s ≠ []) (ts : List Tok) : Good 1 ts.length (must en s ts) := by
  unfold must
  by_cases h : textOf ts = s
  · rw [if_pos h]; exact .ok (by have := tail_len (ts := ts) (by rw [h]; exact hs); omega)
  · rw [if_neg h]; exact .bad
theorem run_good (en : Nat) : ∀ (f : Nat) (m : Md) (d : Nat) (ts : List Tok), 10 * ts.length + m.c < f → Good m.takes ts.length (run en f m d ts) := by
  intro f
  induction f with
  | zero => intro m d ts h; omega
  | succ f ih =>
    intro m d ts hf
    have W : ∀ d ts, 10 * ts.length + 9 < f → Good 1 ts.length (run en f .whole d ts) := fun d ts h => ih .whole d ts h
    have F : ∀ d ts, 10 * ts.length + 4 < f → Good 1 ts.length (run en f .factor d ts) := fun d ts h => ih .factor d ts h
    have C : ∀ n d ts, 10 * ts.length + 8 < f → Good 1 ts.length (run en f (.chain n) d ts) := fun n d ts h => ih (.chain n) d ts (by have := chain_c n; omega)
    have M : ∀ n a d ts, 10 * ts.length + 3 < f → Good 0 ts.length (run en f (.more n a) d ts) := fun n a d ts h => ih (.more n a) d ts h
    show Good m.takes ts.length (body en (run en f) m d ts)
    cases m with
    | whole =>
      simp only [Md.c] at hf
      simp only [body]
      by_cases h1 : 20 < d
      · rw [if_pos h1]; exact .bad
      rw [if_neg h1]
      by_cases h2 : textOf ts = [105, 102]
      · rw [if_pos h2]
        have ht := tail_len (ts := ts) (by rw [h2]; exact List.cons_ne_nil _ _)
        refine (W _ _ (by omega)).next fun t1 a k1 => (must_good (List.cons_ne_nil _ _) t1).next fun t2 _ k2 => (W _ _ (by omega)).next fun t3 b k3 => (must_good (List.cons_ne_nil _ _) t3).next fun t4 _ k4 => (W _ _ (by omega)).next fun t5 c k5 => .ok ?_
        show t5.length + 1 ≤ _; omega
      · rw [if_neg h2]; exact ih (.chain 0) d ts (by have := chain_c 0; omega)
    | chain n =>
      simp only [body]
      by_cases h1 : 3 ≤ n
      · rw [if_pos h1]
        exact F d ts (by simp only [Md.c] at hf; rw [if_neg (by omega), if_neg (by omega), if_neg (by omega)] at hf; omega)
      · rw [if_neg h1]
        refine (ih (.chain (n + 1)) d ts ?_).next fun t1 a k1 => (M n a d t1 ?_).less ?_
        · simp only [Md.c] at hf ⊢
          have : n = 0 ∨ n = 1 ∨ n = 2 := by omega
          rcases this with rfl | rfl | rfl <;> simp at hf ⊢ <;> omega
        · have k2 : t1.length + 1 ≤ ts.length := k1
          omega
        · have k2 : t1.length + 1 ≤ ts.length := k1
          show t1.length + 1 ≤ ts.length + 0; omega
    | more n a =>
      simp only [Md.c] at hf
      simp only [body]
      by_cases h1 : textOf ts ∈ level n
      · rw [if_pos h1]
        have ht := tail_len (ts := ts) (level_ne h1)
        refine (C (n + 1) d ts.tail (by omega)).next fun t1 b k1 => ?_
        by_cases h2 : n = 0
        · rw [if_pos h2]; exact .ok (by show t1.length + 0 ≤ _; omega)
        · rw [if_neg h2]; exact (M n _ d t1 (by omega)).less (by show t1.length + 0 ≤ ts.length + 0; omega)
      · rw [if_neg h1]; exact .ok (Nat.le_refl _)
    | factor =>
      simp only [Md.c] at hf
      simp only [body]
      by_cases h1 : 20 < d
      · rw [if_pos h1]; exact .bad
      rw [if_neg h1]
      by_cases h2 : textOf ts = [45]
      · rw [if_pos h2]
        have ht := tail_len (ts := ts) (by rw [h2]; exact List.cons_ne_nil _ _)
        exact (F _ _ (by omega)).next fun t1 a k1 => .ok (by show t1.length + 1 ≤ _; omega)
      rw [if_neg h2]
      by_cases h3 : textOf ts = [40]
      · rw [if_pos h3]
        have ht := tail_len (ts := ts) (by rw [h3]; exact List.cons_ne_nil _ _)
        exact (W _ _ (by omega)).next fun t1 a k1 => (must_good (List.cons_ne_nil _ _) t1).next fun t2 _ k2 => .ok (by show t2.length + 1 ≤ _; omega)
      rw [if_neg h3]
      by_cases h4 : textOf ts = [109, 105, 110] ∨ textOf ts = [109, 97, 120]
      · rw [if_pos h4]
        have ht := tail_len (ts := ts) (by rcases h4 with h4 | h4 <;> rw [h4] <;> exact List.cons_ne_nil _ _)
        exact (must_good (List.cons_ne_nil _ _) ts.tail).next fun t1 _ k1 => (W _ _ (by omega)).next fun t2 a k2 => (must_good (List.cons_ne_nil _ _) t2).next fun t3 _ k3 => (W _ _ (by omega)).next fun t4 b k4 => (must_good (List.cons_ne_nil _ _) t4).next fun t5 _ k5 => .ok (by show t5.length + 1 ≤ _; omega)
      rw [if_neg h4]
      cases ts with
      | nil => exact .bad
      | cons t r =>
        cases hl : leaf t with
        | none => simp only [hl]; exact .bad
        | some x => simp only [hl]; exact .ok (Nat.le_refl _)
/-- All of reading: no bound is left. -/
def ex (en : Nat) (m : Md) (d : Nat) (ts : List Tok) : Option (R Tr) := run en (10 * ts.length + m.c + 1) m d ts
theorem ex_good (en : Nat) (m : Md) (d : Nat) (ts : List Tok) : Good m.takes ts.length (ex en m d ts) := run_good en _ m d ts (Nat.lt_succ_self _)
theorem run_ex {en f : Nat} {m : Md} {d : Nat} {ts : List Tok} {r : R Tr} (h : run en f m d ts = some r) : ex en m d ts = some r := by
  obtain ⟨r', h', _⟩ := ex_good en m d ts
  have a := run_more (Nat.le_max_left f (10 * ts.length + m.c + 1)) m d ts r h
  have b := run_more (Nat.le_max_right f (10 * ts.length + m.c + 1)) m d ts r' h'
  rw [h', ← a, b]
theorem les_ex (en f : Nat) : Les (run en f) (ex en) := fun _ _ _ _ h => run_ex h
/-- Reading is one step of itself. -/
theorem ex_eq (en : Nat) (m : Md) (d : Nat) (ts : List Tok) : ex en m d ts = body en (ex en) m d ts := by
  obtain ⟨r, h, _⟩ := ex_good en m d ts
  rw [h]
  exact (body_les (les_ex en (10 * ts.length + m.c)) m d ts r h).symm
/-- No tree has more rows than tokens were taken. -/
def Md.sz : Md → Nat
  | .more _ a => a.size | _ => 0
def Few (n : Nat) {α : Type} (sz : α → Nat) (x : Option (R α)) : Prop := ∀ ts a, x = some (.ok ts a) → sz a + ts.length ≤ n
theorem Few.next {α β : Type} {x : Option (R α)} {k : List Tok → α → Option (R β)} {n m : Nat} {sz : α → Nat} {sy : β → Nat} (h : Few n sz x) (hk : ∀ ts a, sz a + ts.length ≤ n → Few m sy (k ts a)) : Few m sy (R.next x k) := by
  intro ts b e
  cases x with
  | none => cases e
  | some r =>
    cases r with
    | bad e' p => cases e
    | ok t1 a => exact hk t1 a (h t1 a rfl) ts b e
theorem Few.ok {α : Type} {m : Nat} {sz : α → Nat} {ts : List Tok} {a : α} (h : sz a + ts.length ≤ m) : Few m sz (some (R.ok ts a)) := fun ts' a' e => by cases e; exact h
theorem Few.bad {α : Type} {m e p : Nat} {sz : α → Nat} : Few m sz (some (R.bad (α := α) e p)) := fun ts a k => by cases k
theorem Few.less {α : Type} {n m : Nat} {sz : α → Nat} {x : Option (R α)} (h : Few n sz x) (hm : n ≤ m) : Few m sz x := fun ts a e => Nat.le_trans (h ts a e) hm
theorem must_few {en : Nat} {s : List UInt8} (hs : s ≠ []) (ts : List Tok) : Few ts.length (fun _ => 1) (must en s ts) := by
  unfold must
  by_cases h : textOf ts = s
  · rw [if_pos h]; exact .ok (by have := tail_len (ts := ts) (by rw [h]; exact hs); omega)
  · rw [if_neg h]; exact .bad
theorem run_few (en : Nat) : ∀ (f : Nat) (m : Md) (d : Nat) (ts : List Tok), Few (m.sz + ts.length) Tr.size (run en f m d ts) := by
  intro f
  induction f with
  | zero => intro m d ts t a e; cases e
  | succ f ih =>
    intro m d ts
    have W : ∀ d ts, Few ts.length Tr.size (run en f .whole d ts) := fun d ts => (ih .whole d ts).less (by simp [Md.sz])
    have F : ∀ d ts, Few ts.length Tr.size (run en f .factor d ts) := fun d ts => (ih .factor d ts).less (by simp [Md.sz])
    have C : ∀ n d ts, Few ts.length Tr.size (run en f (.chain n) d ts) := fun n d ts => (ih (.chain n) d ts).less (by simp [Md.sz])
    have M : ∀ n a d ts, Few (a.size + ts.length) Tr.size (run en f (.more n a) d ts) := fun n a d ts => ih (.more n a) d ts
    show Few _ _ (body en (run en f) m d ts)
    cases m with
    | whole =>
      simp only [body]
      by_cases h1 : 20 < d
      · rw [if_pos h1]; exact .bad
      rw [if_neg h1]
      by_cases h2 : textOf ts = [105, 102]
      · rw [if_pos h2]
        have ht := tail_len (ts := ts) (by rw [h2]; exact List.cons_ne_nil _ _)
        exact (W _ _).next fun t1 a k1 => (must_few (List.cons_ne_nil _ _) t1).next fun t2 _ k2 => (W _ _).next fun t3 b k3 => (must_few (List.cons_ne_nil _ _) t3).next fun t4 _ k4 => (W _ _).next fun t5 c k5 => .ok (by simp only [Tr.size, Md.sz]; omega)
      · rw [if_neg h2]; exact (C 0 d ts).less (by simp only [Md.sz]; omega)
    | chain n =>
      simp only [body]
      by_cases h1 : 3 ≤ n
      · rw [if_pos h1]; exact (F d ts).less (by simp only [Md.sz]; omega)
      · rw [if_neg h1]
        exact (C (n + 1) d ts).next fun t1 a k1 => (M n a d t1).less (by simp only [Md.sz]; omega)
    | more n a =>
      simp only [body]
      by_cases h1 : textOf ts ∈ level n
      · rw [if_pos h1]
        have ht := tail_len (ts := ts) (level_ne h1)
        refine (C (n + 1) d ts.tail).next fun t1 b k1 => ?_
        by_cases h2 : n = 0
        · rw [if_pos h2]; exact .ok (by simp only [Tr.size, Md.sz]; omega)
        · rw [if_neg h2]; exact (M n _ d t1).less (by simp only [Tr.size, Md.sz]; omega)
      · rw [if_neg h1]; exact .ok (by simp only [Md.sz]; omega)
    | factor =>
      simp only [body]
      by_cases h1 : 20 < d
      · rw [if_pos h1]; exact .bad
      rw [if_neg h1]
      by_cases h2 : textOf ts = [45]
      · rw [if_pos h2]
        have ht := tail_len (ts := ts) (by rw [h2]; exact List.cons_ne_nil _ _)
        exact (F _ _).next fun t1 a k1 => .ok (by simp only [Tr.size, Md.sz]; omega)
      rw [if_neg h2]
      by_cases h3 : textOf ts = [40]
      · rw [if_pos h3]
        have ht := tail_len (ts := ts) (by rw [h3]; exact List.cons_ne_nil _ _)
        exact (W _ _).next fun t1 a k1 => (must_few (List.cons_ne_nil _ _) t1).next fun t2 _ k2 => .ok (by simp only [Md.sz]; omega)
      rw [if_neg h3]
      by_cases h4 : textOf ts = [109, 105, 110] ∨ textOf ts = [109, 97, 120]
      · rw [if_pos h4]
        have ht := tail_len (ts := ts) (by rcases h4 with h4 | h4 <;> rw [h4] <;> exact List.cons_ne_nil _ _)
        exact (must_few (List.cons_ne_nil _ _) ts.tail).next fun t1 _ k1 => (W _ _).next fun t2 a k2 => (must_few (List.cons_ne_nil _ _) t2).next fun t3 _ k3 => (W _ _).next fun t4 b k4 => (must_few (List.cons_ne_nil _ _) t4).next fun t5 _ k5 => .ok (by simp only [Tr.size, Md.sz]; omega)
      rw [if_neg h4]
      cases ts with
      | nil => exact .bad
      | cons t r =>
        cases hl : leaf t with
        | none => simp only [hl]; exact .bad
        | some x =>
          simp only [hl]
          have hx : x.size = 1 := by
            unfold leaf at hl
            (repeat' split at hl) <;> first | (cases hl; rfl) | cases hl
          exact .ok (by simp only [List.length_cons, Md.sz]; omega)
theorem ex_few (en : Nat) (m : Md) (d : Nat) (ts : List Tok) : Few (m.sz + ts.length) Tr.size (ex en m d ts) := run_few en _ m d ts
end PTree
