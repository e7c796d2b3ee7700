/-
  Tokens of the same kinds and texts are read to the same rules, or to the same error. Plain facts; no program is named here.
  Two texts of rules, a byte 10 between: what both are read to. Plain facts; no program is named here.
  Each row of a program's expressions but the roots is a part of just one, that stands behind it.
  Rows of two texts of rules, one behind the other: the second one's places shifted. Plain facts; no program is named here.
  The place of an error lies within the text. Plain facts; no program is named here.
-/
import Derived.Test.YtnolbjaeilgjhaaDoorTreeRules
import Derived.Test.YtnolbjaeilgjhaaDoorTreeParse

namespace PTree
open PLex (Tok Same)
/-- Read to the same: what is left is of the same kinds and texts. -/
def Rel {α : Type} : Option (R α) → Option (R α) → Prop
  | some (.bad e _), some (.bad e' _) => e = e'
  | some (.ok ts a), some (.ok us b) => Same ts us ∧ a = b
  | none, none => True
  | _, _ => False
theorem next_rel {α β : Type} {x y : Option (R α)} {k l : List Tok → α → Option (R β)} (h : Rel x y) (hk : ∀ ts us a, Same ts us → Rel (k ts a) (l us a)) : Rel (R.next x k) (R.next y l) := by
  match x, y, h with
  | some (.bad e _), some (.bad e' _), h => exact h
  | some (.ok ts a), some (.ok us b), h => obtain ⟨h1, rfl⟩ := h; exact hk _ _ _ h1
  | none, none, _ => trivial
theorem same_cons {t u : Tok} {ts us : List Tok} (h : Same (t :: ts) (u :: us)) : t.kind = u.kind ∧ t.text = u.text ∧ Same ts us := by
  have h' : (t.kind, t.text) = (u.kind, u.text) ∧ ts.map (fun x => (x.kind, x.text)) = us.map (fun x => (x.kind, x.text)) := by
    have := h
    unfold PLex.Same at this
    simpa using this
  exact ⟨(Prod.mk.inj h'.1).1, (Prod.mk.inj h'.1).2, h'.2⟩
theorem same_nil {us : List Tok} (h : Same [] us) : us = [] := by
  have : us.length = 0 := by have := congrArg List.length h; simpa using this.symm
  exact List.eq_nil_of_length_eq_zero this
theorem same_len {ts us : List Tok} (h : Same ts us) : ts.length = us.length := by have := congrArg List.length h; simpa using this
theorem same_tail {ts us : List Tok} (h : Same ts us) : Same ts.tail us.tail := by
  cases ts with
  | nil => rw [same_nil h]; rfl
  | cons t ts =>
    cases us with
    | nil => have := same_len h; simp at this
    | cons u us => exact (same_cons h).2.2
theorem textOf_same {ts us : List Tok} (h : Same ts us) : textOf ts = textOf us := by
  cases ts with
  | nil => rw [same_nil h]
  | cons t ts =>
    cases us with
    | nil => have := same_len h; simp at this
    | cons u us =>
      obtain ⟨h1, h2, _⟩ := same_cons h
      show (if t.kind = 1 ∨ t.kind = 5 then t.text else []) = (if u.kind = 1 ∨ u.kind = 5 then u.text else [])
      rw [h1, h2]
theorem must_rel {en en' : Nat} {s : List UInt8} {ts us : List Tok} (h : Same ts us) : Rel (must en s ts) (must en' s us) := by
  unfold must
  rw [textOf_same h]
  by_cases hs : textOf us = s
  · rw [if_pos hs, if_pos hs]; exact ⟨same_tail h, rfl⟩
  · rw [if_neg hs, if_neg hs]; rfl
theorem leaf_same {t u : Tok} (h1 : t.kind = u.kind) (h2 : t.text = u.text) : leaf t = leaf u := by unfold leaf; rw [h1, h2]
theorem body_rel {en en' : Nat} {X Y : Md → Nat → List Tok → Option (R Tr)} (h : ∀ m d ts us, Same ts us → Rel (X m d ts) (Y m d us)) (m : Md) (d : Nat) {ts us : List Tok} (hs : Same ts us) : Rel (body en X m d ts) (body en' Y m d us) := by
  have ht := textOf_same hs
  cases m with
  | whole =>
    simp only [body]
    by_cases h1 : 20 < d
    · rw [if_pos h1, if_pos h1]; rfl
    rw [if_neg h1, if_neg h1, ht]
    by_cases h2 : textOf us = [105, 102]
    · rw [if_pos h2, if_pos h2]
      exact next_rel (h _ _ _ _ (same_tail hs)) fun _ _ _ k1 => next_rel (must_rel k1) fun _ _ _ k2 => next_rel (h _ _ _ _ k2) fun _ _ _ k3 => next_rel (must_rel k3) fun _ _ _ k4 => next_rel (h _ _ _ _ k4) fun _ _ _ k5 => ⟨k5, rfl⟩
    · rw [if_neg h2, if_neg h2]; exact h _ _ _ _ hs
  | chain n =>
    simp only [body]
    by_cases h1 : 3 ≤ n
    · rw [if_pos h1, if_pos h1]; exact h _ _ _ _ hs
    · rw [if_neg h1, if_neg h1]
      exact next_rel (h _ _ _ _ hs) fun _ _ _ k1 => h _ _ _ _ k1
  | more n a =>
    simp only [body, ht]
    by_cases h1 : textOf us ∈ level n
    · rw [if_pos h1, if_pos h1]
      refine next_rel (h _ _ _ _ (same_tail hs)) fun _ _ _ k1 => ?_
      by_cases h2 : n = 0
      · rw [if_pos h2, if_pos h2]; exact ⟨k1, rfl⟩
      · rw [if_neg h2, if_neg h2]; exact h _ _ _ _ k1
    · rw [if_neg h1, if_neg h1]; exact ⟨hs, rfl⟩
  | factor =>
    simp only [body, ht]
    by_cases h1 : 20 < d
    · rw [if_pos h1, if_pos h1]; rfl
    rw [if_neg h1, if_neg h1]
    by_cases h2 : textOf us = [45]
    · rw [if_pos h2, if_pos h2]
      exact next_rel (h _ _ _ _ (same_tail hs)) fun _ _ _ k1 => ⟨k1, rfl⟩
    rw [if_neg h2, if_neg h2]
    by_cases h3 : textOf us = [40]
    · rw [if_pos h3, if_pos h3]
      exact next_rel (h _ _ _ _ (same_tail hs)) fun _ _ _ k1 => next_rel (must_rel k1) fun _ _ _ k2 => ⟨k2, rfl⟩
    rw [if_neg h3, if_neg h3]
    by_cases h4 : textOf us = [109, 105, 110] ∨ textOf us = [109, 97, 120]
    · rw [if_pos h4, if_pos h4]
      exact next_rel (must_rel (same_tail hs)) fun _ _ _ k1 => next_rel (h _ _ _ _ k1) fun _ _ _ k2 => next_rel (must_rel k2) fun _ _ _ k3 => next_rel (h _ _ _ _ k3) fun _ _ _ k4 => next_rel (must_rel k4) fun _ _ _ k5 => ⟨k5, rfl⟩
    rw [if_neg h4, if_neg h4]
    cases ts with
    | nil => rw [same_nil hs]; rfl
    | cons t r =>
      cases us with
      | nil => have := same_len hs; simp at this
      | cons u r' =>
        obtain ⟨e1, e2, e3⟩ := same_cons hs
        simp only []
        rw [leaf_same e1 e2]
        cases leaf u with
        | none => rfl
        | some x => exact ⟨e3, rfl⟩
theorem run_rel {en en' : Nat} : ∀ (f : Nat) (m : Md) (d : Nat) (ts us : List Tok), Same ts us → Rel (run en f m d ts) (run en' f m d us)
  | 0, _, _, _, _, _ => trivial
  | f + 1, m, d, _, _, h => body_rel (fun m d ts us h => run_rel f m d ts us h) m d h
theorem ex_rel {en en' : Nat} (m : Md) (d : Nat) {ts us : List Tok} (h : Same ts us) : Rel (ex en m d ts) (ex en' m d us) := by
  unfold ex
  rw [same_len h]
  exact run_rel _ m d ts us h
theorem rulesF_rel {en en' : Nat} : ∀ (f c : Nat) (ts us : List Tok), Same ts us → Rel (rulesF en f c ts) (rulesF en' f c us)
  | f, c, [], us, h => by rw [same_nil h]; cases f <;> exact ⟨rfl, rfl⟩
  | 0, c, t :: ts, us, h => by
    cases us with
    | nil => have := same_len h; simp at this
    | cons u us => trivial
  | f + 1, c, t :: ts, us, h => by
    cases us with
    | nil => have := same_len h; simp at this
    | cons u us =>
      obtain ⟨e1, e2, e3⟩ := same_cons h
      simp only [rulesF, textOf_same h]
      by_cases h1 : textOf (u :: us) ∉ kinds
      · rw [if_pos h1, if_pos h1]; rfl
      rw [if_neg h1, if_neg h1]
      by_cases h2 : 59 < c
      · rw [if_pos h2, if_pos h2]; rfl
      rw [if_neg h2, if_neg h2]
      cases ts with
      | nil => rw [same_nil e3]; rfl
      | cons n r =>
        cases us with
        | nil => have := same_len e3; simp at this
        | cons n' r' =>
          obtain ⟨f1, f2, f3⟩ := same_cons e3
          simp only [f1, f2]
          by_cases h3 : n'.kind ≠ 1 ∨ n'.text ∈ takenL
          · rw [if_pos h3, if_pos h3]; rfl
          rw [if_neg h3, if_neg h3]
          exact next_rel (must_rel f3) fun _ _ _ k1 => next_rel (ex_rel .whole 1 k1) fun _ _ _ k2 => next_rel (must_rel k2) fun _ _ _ k3 => next_rel (rulesF_rel f (c + 1) _ _ k3) fun _ _ _ k4 => ⟨k4, rfl⟩
theorem rules_rel {en en' : Nat} (c : Nat) {ts us : List Tok} (h : Same ts us) : Rel (rules en c ts) (rules en' c us) := by
  unfold rules
  rw [same_len h]
  exact rulesF_rel _ c ts us h
/-- Tokens, each between a blank and a byte 10. -/
def wideOf (l : List Tok) : List UInt8 := l.flatMap (fun x => 32 :: (x.text ++ [10]))
theorem wideOf_snoc (l : List Tok) (x : Tok) : wideOf (l ++ [x]) = wideOf l ++ (32 :: (x.text ++ [10])) := by simp [wideOf]
theorem wide_toks {K : List UInt8 → Nat} : ∀ (l : List Tok) (p : Nat), (∀ x ∈ l, PLex.Lone K x.kind x.text) → (PLex.all K p (wideOf l)).1 = none ∧ Same (PLex.all K p (wideOf l)).2 l
  | [], p, _ => by simp [wideOf, PLex.all_nil]; rfl
  | x :: l, p, h => by
    have e : wideOf (x :: l) = 32 :: (x.text ++ 10 :: wideOf l) := by simp [wideOf]
    rw [e, PLex.all_blank, PLex.all_word (h x (List.mem_cons_self ..)) PLex.sep_line, PLex.all_line]
    obtain ⟨h1, h2⟩ := wide_toks l (p + 1 + x.text.length + 1) (fun y hy => h y (List.mem_cons_of_mem _ hy))
    refine ⟨h1, ?_⟩
    unfold PLex.Same at h2 ⊢
    simp only [List.map_cons, h2]
theorem parse_wide {s : List UInt8} {ts : List Tok} (h : PLex.all PLex.kindOf 0 s = (none, ts)) : Rel (parse s) (parse (wideOf ts)) := by
  have hl := PLex.all_lone (K := PLex.kindOf) s.length 0 s (Nat.le_refl _)
  rw [h] at hl
  obtain ⟨h1, h2⟩ := wide_toks ts 0 hl
  unfold parse
  obtain ⟨r, hr⟩ : ∃ r, PLex.all PLex.kindOf 0 (wideOf ts) = r := ⟨_, rfl⟩
  rw [h, hr]
  rw [hr] at h1 h2
  obtain ⟨a, b⟩ := r
  simp only [] at h1 h2
  subst h1
  exact rules_rel 0 h2.symm
end PTree

namespace PTree
open PLex (Tok)

/-- What is read with something left is read the same with more behind. -/
def EN {α : Type} (us ts : List Tok) (x y : Option (R α)) : Prop := ∀ t2 a, x = some (.ok t2 a) → t2 ≠ [] → ts ≠ [] ∧ y = some (.ok (t2 ++ us) a)
theorem EN.next {α β : Type} {us ts : List Tok} {x y : Option (R α)} {k l : List Tok → α → Option (R β)} (h : EN us ts x y) (hk : ∀ t1 a, EN us t1 (k t1 a) (l (t1 ++ us) a)) : EN us ts (R.next x k) (R.next y l) := by
  intro t2 b e h2
  match x, h, e with
  | some (.ok t1 a), h, e =>
    obtain ⟨h3, h4⟩ := hk t1 a t2 b e h2
    obtain ⟨h5, h6⟩ := h t1 a rfl h3
    exact ⟨h5, by rw [h6]; exact h4⟩
theorem EN.ok {α : Type} {us ts : List Tok} {a : α} : EN us ts (some (.ok ts a)) (some (.ok (ts ++ us) a)) := fun t2 b e h2 => by
  cases e; exact ⟨h2, rfl⟩
theorem EN.bad {α : Type} {us ts : List Tok} {e p : Nat} {y : Option (R α)} : EN us ts (some (.bad e p)) y := fun _ _ e _ => by cases e
/-- Behind a token that is there. -/
theorem EN.tail {α : Type} {us ts r : List Tok} {t : Tok} {x y : Option (R α)} (h : EN us r x y) : EN us (t :: ts) x y := fun t2 a e h2 => ⟨List.cons_ne_nil _ _, (h t2 a e h2).2⟩
theorem must_en {en en' : Nat} {s : List UInt8} (hs : s ≠ []) (us ts : List Tok) : EN us ts (must en s ts) (must en' s (ts ++ us)) := by
  intro t2 a e h2
  unfold must at e ⊢
  cases ts with
  | nil =>
    have : textOf [] = [] := rfl
    rw [this, if_neg (fun k => hs k.symm)] at e; cases e
  | cons t r =>
    have ht : textOf ((t :: r) ++ us) = textOf (t :: r) := rfl
    rw [ht]
    by_cases h : textOf (t :: r) = s
    · rw [if_pos h] at e ⊢
      cases e
      exact ⟨List.cons_ne_nil _ _, rfl⟩
    · rw [if_neg h] at e; cases e
theorem body_en {en en' : Nat} {us : List Tok} {X Y : Md → Nat → List Tok → Option (R Tr)} (h : ∀ m d ts, EN us ts (X m d ts) (Y m d (ts ++ us))) (m : Md) (d : Nat) (ts : List Tok) : EN us ts (body en X m d ts) (body en' Y m d (ts ++ us)) := by
  cases ts with
  | nil =>
    have t0 : textOf [] = [] := rfl
    intro t2 a e h2
    cases m with
    | whole =>
      simp only [body, t0] at e
      by_cases h1 : 20 < d
      · rw [if_pos h1] at e; cases e
      rw [if_neg h1, if_neg (by decide)] at e
      exact absurd rfl (h _ _ [] t2 a e h2).1
    | chain n =>
      simp only [body] at e
      by_cases h1 : 3 ≤ n
      · rw [if_pos h1] at e
        exact absurd rfl (h _ _ [] t2 a e h2).1
      · rw [if_neg h1] at e
        have := (EN.next (l := fun t a => Y (.more n a) d t) (h (.chain (n + 1)) d []) fun t1 a => h (.more n a) d t1) t2 a e h2
        exact absurd rfl this.1
    | more n b =>
      have hn : ([] : List UInt8) ∉ level n := fun k => level_ne k rfl
      simp only [body, t0] at e
      rw [if_neg hn] at e
      cases e; exact absurd rfl h2
    | factor =>
      simp only [body, t0] at e
      by_cases h1 : 20 < d
      · rw [if_pos h1] at e; cases e
      rw [if_neg h1, if_neg (by decide), if_neg (by decide), if_neg (by decide)] at e
      cases e
  | cons t r =>
    have ht : textOf ((t :: r) ++ us) = textOf (t :: r) := rfl
    have hl : ((t :: r) ++ us).tail = (t :: r).tail ++ us := rfl
    have hr : (t :: r).tail = r := rfl
    have H : ∀ m d, EN us (t :: r) (X m d r) (Y m d (r ++ us)) := fun m d => (h m d r).tail
    cases m with
    | whole =>
      simp only [body, ht, hl, hr]
      by_cases h1 : 20 < d
      · rw [if_pos h1]; exact .bad
      rw [if_neg h1, if_neg h1]
      by_cases h2 : textOf (t :: r) = [105, 102]
      · rw [if_pos h2, if_pos h2]
        exact (H _ _).next fun t1 a => (must_en (List.cons_ne_nil _ _) us t1).next fun t2 _ => (h _ _ _).next fun t3 b => (must_en (List.cons_ne_nil _ _) us t3).next fun t4 _ => (h _ _ _).next fun t5 c => .ok
      · rw [if_neg h2, if_neg h2]; exact h _ _ _
    | chain n =>
      simp only [body]
      by_cases h1 : 3 ≤ n
      · rw [if_pos h1, if_pos h1]; exact h _ _ _
      · rw [if_neg h1, if_neg h1]
        exact (h _ _ _).next fun t1 a => h _ _ _
    | more n a =>
      simp only [body, ht, hl, hr]
      by_cases h1 : textOf (t :: r) ∈ level n
      · rw [if_pos h1, if_pos h1]
        refine (H _ _).next fun t1 b => ?_
        by_cases h2 : n = 0
        · rw [if_pos h2, if_pos h2]; exact .ok
        · rw [if_neg h2, if_neg h2]; exact h _ _ _
      · rw [if_neg h1, if_neg h1]; exact .ok
    | factor =>
      simp only [body, ht, hl, hr]
      by_cases h1 : 20 < d
      · rw [if_pos h1]; exact .bad
      rw [if_neg h1, if_neg h1]
      by_cases h2 : textOf (t :: r) = [45]
      · rw [if_pos h2, if_pos h2]
        exact (H _ _).next fun t1 a => .ok
      rw [if_neg h2, if_neg h2]
      by_cases h3 : textOf (t :: r) = [40]
      · rw [if_pos h3, if_pos h3]
        exact (H _ _).next fun t1 a => (must_en (List.cons_ne_nil _ _) us t1).next fun t2 _ => .ok
      rw [if_neg h3, if_neg h3]
      by_cases h4 : textOf (t :: r) = [109, 105, 110] ∨ textOf (t :: r) = [109, 97, 120]
      · rw [if_pos h4, if_pos h4]
        exact ((must_en (List.cons_ne_nil _ _) us r).tail).next fun t1 _ => (h _ _ _).next fun t2 a => (must_en (List.cons_ne_nil _ _) us t2).next fun t3 _ => (h _ _ _).next fun t4 b => (must_en (List.cons_ne_nil _ _) us t4).next fun t5 _ => .ok
      rw [if_neg h4, if_neg h4]
      rw [List.cons_append]
      simp only []
      cases leaf t with
      | none => exact .bad
      | some x => exact EN.tail .ok
theorem run_en {en en' : Nat} (us : List Tok) : ∀ (f : Nat) (m : Md) (d : Nat) (ts : List Tok), EN us ts (run en f m d ts) (run en' f m d (ts ++ us))
  | 0, _, _, _ => fun _ _ e _ => by cases e
  | f + 1, m, d, ts => body_en (fun m d ts => run_en us f m d ts) m d ts
theorem ex_en {en en' : Nat} (us : List Tok) (m : Md) (d : Nat) (ts : List Tok) : EN us ts (ex en m d ts) (ex en' m d (ts ++ us)) := by
  intro t2 a e h2
  obtain ⟨h3, h4⟩ := run_en (en' := en') us _ m d ts t2 a e h2
  exact ⟨h3, run_ex h4⟩
/-- Rules that are read whole, with more behind. -/
theorem rules_more {en en' : Nat} (us : List Tok) : ∀ (n c : Nat) (ts left : List Tok) (rs : List Rl), ts.length ≤ n → rules en c ts = some (.ok left rs) → left = [] ∧ rules en' c (ts ++ us) = R.next (rules en' (c + rs.length) us) fun t l => some (.ok t (rs ++ l))
  | _, c, [], left, rs, _, e => by
    rw [rules_nil] at e
    cases e
    refine ⟨rfl, ?_⟩
    simp only [List.nil_append, List.length_nil, Nat.add_zero]
    cases rules en' c us with
    | none => rfl
    | some r => cases r <;> rfl
  | 0, _, _ :: _, _, _, h, _ => by simp at h
  | n + 1, c, t :: ts, left, rs, h, e => by
    rw [List.cons_append, rules_cons]
    rw [rules_cons] at e
    have ht : textOf (t :: (ts ++ us)) = textOf (t :: ts) := rfl
    rw [ht]
    by_cases h1 : textOf (t :: ts) ∉ kinds
    · rw [if_pos h1] at e; cases e
    rw [if_neg h1] at e ⊢
    by_cases h2 : 59 < c
    · rw [if_pos h2] at e; cases e
    rw [if_neg h2] at e ⊢
    cases ts with
    | nil => cases e
    | cons m r =>
      simp only [] at e
      rw [List.cons_append]
      simp only []
      by_cases h3 : m.kind ≠ 1 ∨ m.text ∈ takenL
      · rw [if_pos h3] at e; cases e
      rw [if_neg h3] at e ⊢
      obtain ⟨x1, hx1⟩ : ∃ x, must en [61] r = x := ⟨_, rfl⟩
      rw [hx1] at e
      match x1, hx1, e with
      | some (.ok t1 u), hx1, e =>
        have e : R.next (ex en .whole 1 t1) _ = _ := e
        obtain ⟨x2, hx2⟩ : ∃ x, ex en .whole 1 t1 = x := ⟨_, rfl⟩
        rw [hx2] at e
        match x2, hx2, e with
        | some (.ok t2 x), hx2, e =>
          have e : R.next (must en [59] t2) _ = _ := e
          obtain ⟨x3, hx3⟩ : ∃ x, must en [59] t2 = x := ⟨_, rfl⟩
          rw [hx3] at e
          match x3, hx3, e with
          | some (.ok t3 v), hx3, e =>
            have e : R.next (rules en (c + 1) t3) _ = _ := e
            obtain ⟨x4, hx4⟩ : ∃ x, rules en (c + 1) t3 = x := ⟨_, rfl⟩
            rw [hx4] at e
            match x4, hx4, e with
            | some (.ok t4 rs2), hx4, e =>
              have e : some (R.ok t4 _) = _ := e
              have n2 : t2 ≠ [] := by
                rintro rfl
                unfold must at hx3
                rw [if_neg (by decide)] at hx3; cases hx3
              have k2 := ex_en (en := en) (en' := en') us .whole 1 t1 t2 x hx2 n2
              have n1 := k2.1
              have k1 := (must_en (en := en) (en' := en') (s := [61]) (List.cons_ne_nil _ _) us r t1 u hx1 n1).2
              have k3 : must en' [59] (t2 ++ us) = some (.ok (t3 ++ us) v) := by
                unfold must at hx3 ⊢
                cases t2 with
                | nil => exact absurd rfl n2
                | cons q t2 =>
                  have hq : textOf ((q :: t2) ++ us) = textOf (q :: t2) := rfl
                  rw [hq]
                  by_cases h5 : textOf (q :: t2) = [59]
                  · rw [if_pos h5] at hx3 ⊢; cases hx3; rfl
                  · rw [if_neg h5] at hx3; cases hx3
              have l1 : t1.length + 1 ≤ r.length := by
                obtain ⟨y, hy, hy2⟩ := must_good (en := en) (s := [61]) (List.cons_ne_nil _ _) r
                rw [hx1] at hy; cases hy; exact hy2 _ _ rfl
              have l2 : t2.length + 1 ≤ t1.length := by
                obtain ⟨y, hy, hy2⟩ := ex_good en .whole 1 t1
                rw [hx2] at hy; cases hy; exact hy2 _ _ rfl
              have l3 : t3.length + 1 ≤ t2.length := by
                obtain ⟨y, hy, hy2⟩ := must_good (en := en) (s := [59]) (List.cons_ne_nil _ _) t2
                rw [hx3] at hy; cases hy; exact hy2 _ _ rfl
              simp only [List.length_cons] at h
              obtain ⟨h6, h7⟩ := rules_more (en := en) (en' := en') us n (c + 1) t3 t4 rs2 (by omega) hx4
              cases e
              refine ⟨h6, ?_⟩
              rw [k1]
              show R.next (ex en' .whole 1 (t1 ++ us)) _ = _
              rw [k2.2]
              show R.next (must en' [59] (t2 ++ us)) _ = _
              rw [k3]
              show R.next (rules en' (c + 1) (t3 ++ us)) _ = _
              rw [h7, List.length_cons, show c + (rs2.length + 1) = c + 1 + rs2.length by omega]
              cases rules en' (c + 1 + rs2.length) us with
              | none => rfl
              | some r => cases r <;> rfl

/-- Read to the same, but for places: those are k farther. -/
def Rs {α : Type} (k : Nat) : Option (R α) → Option (R α) → Prop
  | some (.bad e p), some (.bad e' p') => e' = e ∧ p' = p + k
  | some (.ok ts a), some (.ok us b) => us = ts.map (Tok.shift k) ∧ a = b
  | none, none => True
  | _, _ => False
theorem next_rs {α β : Type} {k : Nat} {x y : Option (R α)} {f g : List Tok → α → Option (R β)} (h : Rs k x y) (hk : ∀ ts a, Rs k (f ts a) (g (ts.map (Tok.shift k)) a)) : Rs k (R.next x f) (R.next y g) := by
  match x, y, h with
  | some (.bad e _), some (.bad e' _), h => exact h
  | some (.ok ts a), some (.ok us b), h => obtain ⟨rfl, rfl⟩ := h; exact hk _ _
  | none, none, _ => trivial
theorem textOf_shift (k : Nat) (ts : List Tok) : textOf (ts.map (Tok.shift k)) = textOf ts := by cases ts <;> rfl
theorem placeOf_shift (en k : Nat) (ts : List Tok) : placeOf (en + k) (ts.map (Tok.shift k)) = placeOf en ts + k := by cases ts <;> rfl
theorem tail_shift (k : Nat) (ts : List Tok) : (ts.map (Tok.shift k)).tail = ts.tail.map (Tok.shift k) := by cases ts <;> rfl
theorem must_rs (en k : Nat) (s : List UInt8) (ts : List Tok) : Rs k (must en s ts) (must (en + k) s (ts.map (Tok.shift k))) := by
  unfold must
  rw [textOf_shift, placeOf_shift, tail_shift]
  by_cases hs : textOf ts = s
  · rw [if_pos hs, if_pos hs]; exact ⟨rfl, rfl⟩
  · rw [if_neg hs, if_neg hs]; exact ⟨rfl, rfl⟩
theorem leaf_shift (k : Nat) (t : Tok) : leaf (t.shift k) = leaf t := rfl
theorem body_rs {en k : Nat} {X Y : Md → Nat → List Tok → Option (R Tr)} (h : ∀ m d ts, Rs k (X m d ts) (Y m d (ts.map (Tok.shift k)))) (m : Md) (d : Nat) (ts : List Tok) : Rs k (body en X m d ts) (body (en + k) Y m d (ts.map (Tok.shift k))) := by
  have ht := textOf_shift k ts
  have hp := placeOf_shift en k ts
  have hl := tail_shift k ts
  cases m with
  | whole =>
    simp only [body, ht, hp, hl]
    by_cases h1 : 20 < d
    · rw [if_pos h1, if_pos h1]; exact ⟨rfl, rfl⟩
    rw [if_neg h1, if_neg h1]
    by_cases h2 : textOf ts = [105, 102]
    · rw [if_pos h2, if_pos h2]
      exact next_rs (h _ _ _) fun t1 a => next_rs (must_rs en k _ t1) fun t2 _ => next_rs (h _ _ _) fun t3 _ => next_rs (must_rs en k _ t3) fun t4 _ => next_rs (h _ _ _) fun _ _ => ⟨rfl, rfl⟩
    · rw [if_neg h2, if_neg h2]; exact h _ _ _
  | chain n =>
    simp only [body]
    by_cases h1 : 3 ≤ n
    · rw [if_pos h1, if_pos h1]; exact h _ _ _
    · rw [if_neg h1, if_neg h1]
      exact next_rs (h _ _ _) fun _ _ => h _ _ _
  | more n a =>
    simp only [body, ht, hl]
    by_cases h1 : textOf ts ∈ level n
    · rw [if_pos h1, if_pos h1]
      refine next_rs (h _ _ _) fun _ _ => ?_
      by_cases h2 : n = 0
      · rw [if_pos h2, if_pos h2]; exact ⟨rfl, rfl⟩
      · rw [if_neg h2, if_neg h2]; exact h _ _ _
    · rw [if_neg h1, if_neg h1]; exact ⟨rfl, rfl⟩
  | factor =>
    simp only [body, ht, hp, hl]
    by_cases h1 : 20 < d
    · rw [if_pos h1, if_pos h1]; exact ⟨rfl, rfl⟩
    rw [if_neg h1, if_neg h1]
    by_cases h2 : textOf ts = [45]
    · rw [if_pos h2, if_pos h2]
      exact next_rs (h _ _ _) fun _ _ => ⟨rfl, rfl⟩
    rw [if_neg h2, if_neg h2]
    by_cases h3 : textOf ts = [40]
    · rw [if_pos h3, if_pos h3]
      exact next_rs (h _ _ _) fun t1 _ => next_rs (must_rs en k _ t1) fun _ _ => ⟨rfl, rfl⟩
    rw [if_neg h3, if_neg h3]
    by_cases h4 : textOf ts = [109, 105, 110] ∨ textOf ts = [109, 97, 120]
    · rw [if_pos h4, if_pos h4]
      exact next_rs (must_rs en k _ _) fun _ _ => next_rs (h _ _ _) fun t2 _ => next_rs (must_rs en k _ t2) fun _ _ => next_rs (h _ _ _) fun t4 _ => next_rs (must_rs en k _ t4) fun _ _ => ⟨rfl, rfl⟩
    rw [if_neg h4, if_neg h4]
    cases ts with
    | nil => exact ⟨rfl, rfl⟩
    | cons t r =>
      rw [List.map_cons]
      simp only []
      rw [leaf_shift]
      cases leaf t with
      | none => exact ⟨rfl, rfl⟩
      | some x => exact ⟨rfl, rfl⟩
theorem run_rs {en k : Nat} : ∀ (f : Nat) (m : Md) (d : Nat) (ts : List Tok), Rs k (run en f m d ts) (run (en + k) f m d (ts.map (Tok.shift k)))
  | 0, _, _, _ => trivial
  | f + 1, m, d, ts => body_rs (fun m d ts => run_rs f m d ts) m d ts
theorem ex_rs (en k : Nat) (m : Md) (d : Nat) (ts : List Tok) : Rs k (ex en m d ts) (ex (en + k) m d (ts.map (Tok.shift k))) := by
  unfold ex
  rw [List.length_map]
  exact run_rs _ m d ts
/-- Read behind more rules: the same, or there are too many. -/
def Rc (k c n : Nat) : Option (R (List Rl)) → Option (R (List Rl)) → Prop
  | some (.bad e p), some (.bad e' p') => e' = e ∧ p' = p + k ∨ e' = 9
  | some (.ok _ rs), some (.ok _ b) => rs = b ∧ (rs = [] ∨ c + n + rs.length ≤ 60)
  | some (.ok _ rs), some (.bad e _) => e = 9 ∧ 60 < c + n + rs.length
  | none, _ => True
  | _, _ => False
theorem next_rc {α : Type} {k c n : Nat} {x y : Option (R α)} {f g : List Tok → α → Option (R (List Rl))} (h : Rs k x y) (hk : ∀ ts a, x = some (.ok ts a) → Rc k c n (f ts a) (g (ts.map (Tok.shift k)) a)) : Rc k c n (R.next x f) (R.next y g) := by
  match x, y, h with
  | some (.bad e _), some (.bad e' _), h => exact .inl h
  | some (.ok ts a), some (.ok us b), h => obtain ⟨rfl, rfl⟩ := h; exact hk _ _ rfl
  | none, none, _ => trivial
theorem rules_rc (en k n : Nat) : ∀ (f c : Nat) (ts : List Tok), ts.length ≤ f → Rc k c n (rules en c ts) (rules (en + k) (c + n) (ts.map (Tok.shift k)))
  | _, c, [], _ => ⟨rfl, .inl rfl⟩
  | 0, _, _ :: _, h => by simp at h
  | f + 1, c, t :: ts, h => by
    rw [List.map_cons, rules_cons, rules_cons]
    have ht : textOf (t.shift k :: ts.map (Tok.shift k)) = textOf (t :: ts) := rfl
    rw [ht]
    by_cases h1 : textOf (t :: ts) ∉ kinds
    · rw [if_pos h1, if_pos h1]; exact .inl ⟨rfl, rfl⟩
    rw [if_neg h1, if_neg h1]
    by_cases h2 : 59 < c
    · rw [if_pos h2, if_pos (by omega)]; exact .inl ⟨rfl, rfl⟩
    rw [if_neg h2]
    by_cases h2' : 59 < c + n
    · rw [if_pos h2']
      -- whatever the rules are, there are too many
      cases ts with
      | nil => exact .inr rfl
      | cons m r =>
        simp only []
        by_cases h3 : m.kind ≠ 1 ∨ m.text ∈ takenL
        · rw [if_pos h3]; exact .inr rfl
        rw [if_neg h3]
        obtain ⟨x1, e1, g1⟩ := must_good (en := en) (s := [61]) (List.cons_ne_nil _ _) r
        rw [e1]
        cases x1 with
        | bad e p => exact .inr rfl
        | ok t1 u =>
          obtain ⟨x2, e2, g2⟩ := ex_good en .whole 1 t1
          simp only [R.next]
          rw [e2]
          cases x2 with
          | bad e p => exact .inr rfl
          | ok t2 x =>
            simp only []
            obtain ⟨x3, e3, g3⟩ := must_good (en := en) (s := [59]) (List.cons_ne_nil _ _) t2
            rw [e3]
            cases x3 with
            | bad e p => exact .inr rfl
            | ok t3 v =>
              simp only []
              have l1 := g1 _ _ rfl
              have l2 : t2.length + 1 ≤ t1.length := g2 _ _ rfl
              have l3 := g3 _ _ rfl
              simp only [List.length_cons] at h
              have ih := rules_rc en k n f (c + 1) t3 (by omega)
              generalize rules en (c + 1) t3 = z at ih
              generalize rules (en + k) (c + 1 + n) (t3.map (Tok.shift k)) = z' at ih
              match z, z', ih with
              | some (.bad _ _), _, _ => exact .inr rfl
              | some (.ok _ rs), _, _ => exact ⟨rfl, by rw [List.length_cons]; omega⟩
              | none, _, _ => trivial
    rw [if_neg h2']
    cases ts with
    | nil => exact .inl ⟨rfl, rfl⟩
    | cons m r =>
      rw [List.map_cons]
      simp only []
      have hm : (m.shift k).kind = m.kind := rfl
      have hm2 : (m.shift k).text = m.text := rfl
      rw [hm, hm2]
      by_cases h3 : m.kind ≠ 1 ∨ m.text ∈ takenL
      · rw [if_pos h3, if_pos h3]; exact .inl ⟨rfl, rfl⟩
      rw [if_neg h3, if_neg h3]
      simp only [List.length_cons] at h
      refine next_rc (must_rs en k _ _) fun t1 u e1 => next_rc (ex_rs en k _ _ _) fun t2 x e2 => next_rc (must_rs en k _ _) fun t3 v e3 => ?_
      have l1 : t1.length + 1 ≤ r.length := by
        obtain ⟨y, hy, hy2⟩ := must_good (en := en) (s := [61]) (List.cons_ne_nil _ _) r
        rw [e1] at hy; cases hy; exact hy2 _ _ rfl
      have l2 : t2.length + 1 ≤ t1.length := by
        obtain ⟨y, hy, hy2⟩ := ex_good en .whole 1 t1
        rw [e2] at hy; cases hy; exact hy2 _ _ rfl
      have l3 : t3.length + 1 ≤ t2.length := by
        obtain ⟨y, hy, hy2⟩ := must_good (en := en) (s := [59]) (List.cons_ne_nil _ _) t2
        rw [e3] at hy; cases hy; exact hy2 _ _ rfl
      have ih := rules_rc en k n f (c + 1) t3 (by omega)
      rw [show c + n + 1 = c + 1 + n by omega]
      generalize rules en (c + 1) t3 = z at ih
      generalize rules (en + k) (c + 1 + n) (t3.map (Tok.shift k)) = z' at ih
      match z, z', ih with
      | some (.bad _ _), some (.bad _ _), ih => exact ih
      | some (.ok _ rs), some (.ok _ rs'), ih =>
        obtain ⟨rfl, ih⟩ := ih
        refine ⟨rfl, .inr ?_⟩
        rw [List.length_cons]
        rcases ih with rfl | ih
        · show c + n + (0 + 1) ≤ 60; omega
        · omega
      | some (.ok _ rs), some (.bad _ _), ih => exact ⟨ih.1, by have h2 := ih.2; rw [List.length_cons]; omega⟩
      | none, _, _ => trivial
/-- An error is one of two. -/
def Er {α : Type} (x : Option (R α)) : Prop := ∀ e p, x = some (.bad e p) → e = 2 ∨ e = 9
theorem Er.next {α β : Type} {x : Option (R α)} {k : List Tok → α → Option (R β)} (h : Er x) (hk : ∀ t a, Er (k t a)) : Er (R.next x k) := by
  intro e p h2
  match x, h, h2 with
  | some (.bad e' p'), h, h2 => cases h2; exact h _ _ rfl
  | some (.ok t a), h, h2 => exact hk t a e p h2
theorem Er.ok {α : Type} {ts : List Tok} {a : α} : Er (some (.ok ts a)) := fun _ _ h => by cases h
theorem er_two {α : Type} {p : Nat} : Er (some (.bad (α := α) 2 p)) := fun _ _ h => by cases h; exact .inl rfl
theorem er_nine {α : Type} {p : Nat} : Er (some (.bad (α := α) 9 p)) := fun _ _ h => by cases h; exact .inr rfl
theorem must_er (en : Nat) (s : List UInt8) (ts : List Tok) : Er (must en s ts) := by
  unfold must
  by_cases h : textOf ts = s
  · rw [if_pos h]; exact .ok
  · rw [if_neg h]; exact er_two
theorem body_er {en : Nat} {X : Md → Nat → List Tok → Option (R Tr)} (h : ∀ m d ts, Er (X m d ts)) (m : Md) (d : Nat) (ts : List Tok) : Er (body en X m d ts) := by
  cases m with
  | whole =>
    simp only [body]
    by_cases h1 : 20 < d
    · rw [if_pos h1]; exact er_nine
    rw [if_neg h1]
    by_cases h2 : textOf ts = [105, 102]
    · rw [if_pos h2]
      exact (h _ _ _).next fun t1 a => (must_er _ _ _).next fun t2 _ => (h _ _ _).next fun t3 b => (must_er _ _ _).next fun t4 _ => (h _ _ _).next fun t5 c => .ok
    · rw [if_neg h2]; exact h _ _ _
  | chain n =>
    simp only [body]
    by_cases h1 : 3 ≤ n
    · rw [if_pos h1]; exact h _ _ _
    · rw [if_neg h1]; exact (h _ _ _).next fun t1 a => h _ _ _
  | more n a =>
    simp only [body]
    by_cases h1 : textOf ts ∈ level n
    · rw [if_pos h1]
      refine (h _ _ _).next fun t1 b => ?_
      by_cases h2 : n = 0
      · rw [if_pos h2]; exact .ok
      · rw [if_neg h2]; exact h _ _ _
    · rw [if_neg h1]; exact .ok
  | factor =>
    simp only [body]
    by_cases h1 : 20 < d
    · rw [if_pos h1]; exact er_nine
    rw [if_neg h1]
    by_cases h2 : textOf ts = [45]
    · rw [if_pos h2]; exact (h _ _ _).next fun t1 a => .ok
    rw [if_neg h2]
    by_cases h3 : textOf ts = [40]
    · rw [if_pos h3]; exact (h _ _ _).next fun t1 a => (must_er _ _ _).next fun t2 _ => .ok
    rw [if_neg h3]
    by_cases h4 : textOf ts = [109, 105, 110] ∨ textOf ts = [109, 97, 120]
    · rw [if_pos h4]
      exact (must_er _ _ _).next fun t1 _ => (h _ _ _).next fun t2 a => (must_er _ _ _).next fun t3 _ => (h _ _ _).next fun t4 b => (must_er _ _ _).next fun t5 _ => .ok
    rw [if_neg h4]
    cases ts with
    | nil => exact er_two
    | cons t r =>
      simp only []
      cases leaf t with
      | none => exact er_two
      | some x => exact .ok
theorem run_er (en : Nat) : ∀ (f : Nat) (m : Md) (d : Nat) (ts : List Tok), Er (run en f m d ts)
  | 0, _, _, _ => fun _ _ h => by cases h
  | f + 1, m, d, ts => body_er (fun m d ts => run_er en f m d ts) m d ts
theorem rulesF_er (en : Nat) : ∀ (f c : Nat) (ts : List Tok), Er (rulesF en f c ts)
  | f, c, [] => by cases f <;> exact .ok
  | 0, c, t :: ts => fun _ _ h => by cases h
  | f + 1, c, t :: ts => by
    simp only [rulesF]
    by_cases h1 : textOf (t :: ts) ∉ kinds
    · rw [if_pos h1]; exact er_two
    rw [if_neg h1]
    by_cases h2 : 59 < c
    · rw [if_pos h2]; exact er_nine
    rw [if_neg h2]
    cases ts with
    | nil => exact er_two
    | cons m r =>
      simp only []
      by_cases h3 : m.kind ≠ 1 ∨ m.text ∈ takenL
      · rw [if_pos h3]; exact er_two
      rw [if_neg h3]
      exact (must_er _ _ _).next fun t1 _ => (show Er (ex en .whole 1 t1) from run_er en _ _ _ _).next fun t2 x => (must_er _ _ _).next fun t3 _ => (rulesF_er en f (c + 1) t3).next fun t4 rs => .ok
theorem parse_er (s : List UInt8) : Er (parse s) := by
  unfold parse
  obtain ⟨r, hr⟩ : ∃ r, PLex.all PLex.kindOf 0 s = r := ⟨_, rfl⟩
  obtain ⟨q, ts⟩ := r
  rw [hr]
  cases q with
  | some q => exact er_two
  | none => exact rulesF_er _ _ _ _
theorem shift_zero (ts : List Tok) : ts.map (Tok.shift 0) = ts := by
  have : Tok.shift 0 = id := by funext t; cases t; rfl
  rw [this, List.map_id]
theorem rules_few60 {en : Nat} {ts l : List Tok} {rs : List Rl} (h : rules en 0 ts = some (.ok l rs)) : rs.length ≤ 60 := by
  have hr := rules_rc en 0 0 ts.length 0 ts (Nat.le_refl _)
  rw [shift_zero, Nat.add_zero, Nat.add_zero, h] at hr
  obtain ⟨-, hr⟩ := hr
  rcases hr with rfl | hr
  · exact Nat.zero_le _
  · omega
theorem parse_few60 {s : List UInt8} {l : List Tok} {rs : List Rl} (h : parse s = some (.ok l rs)) : rs.length ≤ 60 := by
  unfold parse at h
  obtain ⟨r, hr⟩ : ∃ r, PLex.all PLex.kindOf 0 s = r := ⟨_, rfl⟩
  obtain ⟨q, ts⟩ := r
  rw [hr] at h
  cases q with
  | some q => cases h
  | none => exact rules_few60 h
/-- Two texts of rules, a byte 10 between. -/
theorem parse_join {s t : List UInt8} {l1 : List Tok} {rs1 : List Rl} (h : parse s = some (.ok l1 rs1)) :
    (∀ l2 rs2, parse t = some (.ok l2 rs2) → (rs1.length + rs2.length ≤ 60 → ∃ l3, parse (s ++ 10 :: t) = some (.ok l3 (rs1 ++ rs2))) ∧ (60 < rs1.length + rs2.length → ∃ p, parse (s ++ 10 :: t) = some (.bad 9 p))) ∧
    (∀ e p, parse t = some (.bad e p) → ∃ e' p', parse (s ++ 10 :: t) = some (.bad e' p') ∧ (e' = e ∧ p' = p + s.length + 1 ∨ e' = 9)) := by
  have hf := parse_few60 h
  unfold parse at h
  obtain ⟨r, hr⟩ : ∃ r, PLex.all PLex.kindOf 0 s = r := ⟨_, rfl⟩
  obtain ⟨q, ts⟩ := r
  rw [hr] at h
  cases q with
  | some q => cases h
  | none =>
    have h : rules s.length 0 ts = some (.ok l1 rs1) := h
    have hj := PLex.all_join PLex.kindOf s.length 0 s t (Nat.le_refl _)
    rw [hr] at hj
    simp only [] at hj
    have hs := PLex.all_shift PLex.kindOf t.length 0 (s.length + 1) t (Nat.le_refl _)
    rw [show 0 + s.length + 1 = 0 + (s.length + 1) by omega, hs] at hj
    obtain ⟨r, hr2⟩ : ∃ r, PLex.all PLex.kindOf 0 t = r := ⟨_, rfl⟩
    obtain ⟨q2, us⟩ := r
    rw [hr2] at hj
    cases q2 with
    | some q2 =>
      have hp : parse t = some (.bad 2 q2) := by unfold parse; rw [hr2]
      have hb : parse (s ++ 10 :: t) = some (.bad 2 (q2 + (s.length + 1))) := by unfold parse; rw [hj]; rfl
      refine ⟨fun l2 rs2 k => (by rw [hp] at k; cases k), fun e p k => ?_⟩
      rw [hp] at k; cases k
      exact ⟨_, _, hb, .inl ⟨rfl, by omega⟩⟩
    | none =>
      have hp : parse t = rules t.length 0 us := by unfold parse; rw [hr2]
      have hb : parse (s ++ 10 :: t) = rules (t.length + (s.length + 1)) 0 (ts ++ us.map (Tok.shift (s.length + 1))) := by
        unfold parse; rw [hj]
        simp only [Option.map_none, List.length_append, List.length_cons]
        rw [show s.length + (t.length + 1) = t.length + (s.length + 1) by omega]
      have hm := (rules_more (en := s.length) (en' := t.length + (s.length + 1)) (us.map (Tok.shift (s.length + 1))) ts.length 0 ts l1 rs1 (Nat.le_refl _) h).2
      rw [Nat.zero_add] at hm
      have hc := rules_rc t.length (s.length + 1) rs1.length us.length 0 us (Nat.le_refl _)
      rw [Nat.zero_add] at hc
      rw [hb, hm, hp]
      generalize rules t.length 0 us = x at hc
      generalize rules (t.length + (s.length + 1)) rs1.length (us.map (Tok.shift (s.length + 1))) = y at hc
      match x, y, hc with
      | some (.bad e p), some (.bad e' p'), hc =>
        refine ⟨fun l2 rs2 k => (by cases k), fun e1 p1 k => ?_⟩
        cases k
        refine ⟨e', p', rfl, ?_⟩
        rcases hc with ⟨h1, h2⟩ | h1
        · exact .inl ⟨h1, by omega⟩
        · exact .inr h1
      | some (.ok l2 rs), some (.ok l3 b), hc =>
        obtain ⟨rfl, hc⟩ := hc
        refine ⟨fun l2' rs2 k => ?_, fun e1 p1 k => by cases k⟩
        cases k
        refine ⟨fun _ => ⟨_, rfl⟩, fun hgt => ?_⟩
        rcases hc with rfl | hc
        · simp only [List.length_nil] at hgt; omega
        · omega
      | some (.ok l2 rs), some (.bad e p), hc =>
        have hc2 := hc.2
        obtain rfl : e = 9 := hc.1
        refine ⟨fun l2' rs2 k => ?_, fun e1 p1 k => by cases k⟩
        cases k
        exact ⟨fun hle => by omega, fun _ => ⟨p, rfl⟩⟩
      | none, _, _ => exact ⟨fun _ _ k => (by cases k), fun _ _ k => (by cases k)⟩
end PTree

namespace PTree
open PLex (Tok)
/-- The signs of two parts. -/
def opsL : List (List UInt8) := [[43], [45], [42], [60], [60, 61], [61], [60, 62], [62], [62, 61], [109, 105, 110], [109, 97, 120]]
def Tr.ops : Tr → Prop
  | .neg a => a.ops
  | .bin op a b => op ∈ opsL ∧ a.ops ∧ b.ops
  | .cond a b c => a.ops ∧ b.ops ∧ c.ops
  | _ => True
def partsOf (x : Ex) : List Nat := if x.op = [110, 101, 103] then [x.a] else if x.op ∈ opsL then [x.a, x.b] else if x.op = [105, 102] then [x.a, x.b, x.c] else []
theorem parts_neg (a b c : Nat) (s : List UInt8) (v : Int) : partsOf ⟨[110, 101, 103], s, v, a, b, c⟩ = [a] := rfl
theorem parts_bin {op : List UInt8} (h : op ∈ opsL) (a b c : Nat) (s : List UInt8) (v : Int) : partsOf ⟨op, s, v, a, b, c⟩ = [a, b] := by
  unfold partsOf
  rw [if_neg (by rintro h2; have h2 : op = [110, 101, 103] := h2; rw [h2] at h; revert h; decide), if_pos h]
theorem parts_if (a b c : Nat) (s : List UInt8) (v : Int) : partsOf ⟨[105, 102], s, v, a, b, c⟩ = [a, b, c] := rfl
theorem range_snoc (o n : Nat) : List.range' o n ++ [o + n] = List.range' o (n + 1) := by rw [List.range'_concat]; simp
theorem range_join (o n m : Nat) : List.range' o n ++ List.range' (o + n) m = List.range' o (n + m) := by
  have := List.range'_append (s := o) (m := n) (n := m) (step := 1)
  rw [Nat.one_mul] at this; exact this
/-- Behind the rows of a tree, its root told: each of its places once. -/
theorem flat_parts : ∀ (t : Tr), t.ops → ∀ o, ((t.flat o).flatMap partsOf ++ [o + t.size - 1]).Perm (List.range' o t.size)
  | .whole n, _, o => by simp [Tr.flat, Tr.size, partsOf, opsL]
  | .amount n, _, o => by simp [Tr.flat, Tr.size, partsOf, opsL]
  | .rate n, _, o => by simp [Tr.flat, Tr.size, partsOf, opsL]
  | .name s, _, o => by simp [Tr.flat, Tr.size, partsOf, opsL]
  | .neg a, h, o => by
    have ha := flat_parts a h o
    have p := a.size_pos
    simp only [Tr.flat, Tr.size, List.flatMap_append, List.flatMap_cons, List.flatMap_nil, List.append_nil, parts_neg]
    rw [show o + (a.size + 1) - 1 = o + a.size from rfl, ← range_snoc]
    exact ha.append_right _
  | .bin op a b, h, o => by
    have ha := flat_parts a h.2.1 o
    have hb := flat_parts b h.2.2 (o + a.size)
    have p := a.size_pos
    have q := b.size_pos
    simp only [Tr.flat, Tr.size, List.flatMap_append, List.flatMap_cons, List.flatMap_nil, List.append_nil, parts_bin h.1]
    rw [show o + (a.size + b.size + 1) - 1 = o + (a.size + b.size) from rfl, ← range_snoc, ← range_join]
    refine List.Perm.append_right _ (List.Perm.trans ?_ (ha.append hb))
    generalize (a.flat o).flatMap partsOf = A
    generalize (b.flat (o + a.size)).flatMap partsOf = B
    generalize o + a.size - 1 = x
    generalize o + a.size + b.size - 1 = y
    rw [List.perm_iff_count]
    intro z
    simp only [List.count_append, List.count_cons, List.count_nil]
    omega
  | .cond a b c, h, o => by
    have ha := flat_parts a h.1 o
    have hb := flat_parts b h.2.1 (o + a.size)
    have hc := flat_parts c h.2.2 (o + a.size + b.size)
    rw [Nat.add_assoc o a.size b.size] at hc
    simp only [Tr.flat, Tr.size, List.flatMap_append, List.flatMap_cons, List.flatMap_nil, List.append_nil, parts_if]
    rw [show o + (a.size + b.size + c.size + 1) - 1 = o + (a.size + b.size + c.size) from rfl, ← range_snoc, ← range_join, ← range_join]
    rw [Nat.add_assoc o a.size b.size]
    refine List.Perm.append_right _ (List.Perm.trans ?_ ((ha.append hb).append hc))
    generalize (a.flat o).flatMap partsOf = A
    generalize (b.flat (o + a.size)).flatMap partsOf = B
    generalize (c.flat (o + (a.size + b.size))).flatMap partsOf = C
    generalize o + a.size - 1 = x
    rw [Nat.add_assoc o a.size b.size]
    generalize o + (a.size + b.size) - 1 = y
    generalize o + (a.size + b.size) + c.size - 1 = u
    rw [List.perm_iff_count]
    intro z
    simp only [List.count_append, List.count_cons, List.count_nil]
    omega
/-- A part stands ahead. -/
def Ahead (o : Nat) (l : List Ex) : Prop := ∀ i x, l[i]? = some x → ∀ p ∈ partsOf x, p < o + i
theorem ahead_nil (o : Nat) : Ahead o [] := fun i x h => by simp at h
theorem Ahead.join {o : Nat} {l k : List Ex} (h : Ahead o l) (h2 : Ahead (o + l.length) k) : Ahead o (l ++ k) := fun i x hx p hp => by
  by_cases hi : i < l.length
  · rw [List.getElem?_append_left hi] at hx; exact h i x hx p hp
  · rw [List.getElem?_append_right (by omega)] at hx
    have := h2 _ x hx p hp; omega
theorem ahead_one {o : Nat} {x : Ex} (h : ∀ p ∈ partsOf x, p < o) : Ahead o [x] := fun i y hy p hp => by
  cases i with
  | zero => cases hy; exact h p hp
  | succ i => simp at hy
theorem flat_ahead : ∀ (t : Tr), t.ops → ∀ o, Ahead o (t.flat o)
  | .whole n, _, o => ahead_one (fun p hp => by simp [partsOf, opsL] at hp)
  | .amount n, _, o => ahead_one (fun p hp => by simp [partsOf, opsL] at hp)
  | .rate n, _, o => ahead_one (fun p hp => by simp [partsOf, opsL] at hp)
  | .name s, _, o => ahead_one (fun p hp => by simp [partsOf, opsL] at hp)
  | .neg a, h, o => by
    have p := a.size_pos
    refine (flat_ahead a h o).join ?_
    rw [Tr.flat_len]
    exact ahead_one (fun q hq => by rw [parts_neg] at hq; simp at hq; omega)
  | .bin op a b, h, o => by
    have p := a.size_pos
    have q := b.size_pos
    refine ((flat_ahead a h.2.1 o).join ?_).join ?_
    · rw [Tr.flat_len]; exact flat_ahead b h.2.2 _
    · rw [List.length_append, Tr.flat_len, Tr.flat_len]
      exact ahead_one (fun r hr => by rw [parts_bin h.1] at hr; simp at hr; omega)
  | .cond a b c, h, o => by
    have p := a.size_pos
    have q := b.size_pos
    have s := c.size_pos
    refine (((flat_ahead a h.1 o).join ?_).join ?_).join ?_
    · rw [Tr.flat_len]; exact flat_ahead b h.2.1 _
    · rw [List.length_append, Tr.flat_len, Tr.flat_len, ← Nat.add_assoc]; exact flat_ahead c h.2.2 _
    · rw [List.length_append, List.length_append, Tr.flat_len, Tr.flat_len, Tr.flat_len]
      exact ahead_one (fun r hr => by rw [parts_if] at hr; simp at hr; omega)
/-- All rules. -/
theorem rules_parts : ∀ (rs : List Rl), (∀ r ∈ rs, r.tree.ops) → ∀ o, ((exprsOf o rs).flatMap partsOf ++ (rowsOf o rs).map (·.root)).Perm (List.range' o (sizeOf rs))
  | [], _, o => by simp [exprsOf, rowsOf, sizeOf]
  | r :: rs, h, o => by
    have h1 := flat_parts r.tree (h r (List.mem_cons_self ..)) o
    have h2 := rules_parts rs (fun x hx => h x (List.mem_cons_of_mem _ hx)) (o + r.tree.size)
    simp only [exprsOf, rowsOf, List.flatMap_append, List.map_cons]
    rw [show sizeOf (r :: rs) = r.tree.size + sizeOf rs by simp [sizeOf], ← range_join]
    refine List.Perm.trans ?_ (h1.append h2)
    generalize (r.tree.flat o).flatMap partsOf = A
    generalize (exprsOf (o + r.tree.size) rs).flatMap partsOf = B
    generalize (rowsOf (o + r.tree.size) rs).map (·.root) = C
    rw [List.perm_iff_count]
    intro z
    simp only [List.count_append, List.count_cons, List.count_nil]
    omega
theorem rules_ahead : ∀ (rs : List Rl), (∀ r ∈ rs, r.tree.ops) → ∀ o, Ahead o (exprsOf o rs)
  | [], _, o => ahead_nil o
  | r :: rs, h, o => by
    refine (flat_ahead r.tree (h r (List.mem_cons_self ..)) o).join ?_
    rw [Tr.flat_len]
    exact rules_ahead rs (fun x hx => h x (List.mem_cons_of_mem _ hx)) _
/-- All that a row can be. -/
def allL : List (List UInt8) := [[110, 101, 103], [105, 102], [119, 104, 111, 108, 101], [97, 109, 111, 117, 110, 116], [114, 97, 116, 101], [110, 97, 109, 101]] ++ opsL
theorem flat_all : ∀ (t : Tr), t.ops → ∀ o, ∀ x ∈ t.flat o, x.op ∈ allL
  | .whole n, _, o, x, hx => by rw [List.mem_singleton.1 hx]; show ([119, 104, 111, 108, 101] : List UInt8) ∈ allL; decide
  | .amount n, _, o, x, hx => by rw [List.mem_singleton.1 hx]; show ([97, 109, 111, 117, 110, 116] : List UInt8) ∈ allL; decide
  | .rate n, _, o, x, hx => by rw [List.mem_singleton.1 hx]; show ([114, 97, 116, 101] : List UInt8) ∈ allL; decide
  | .name s, _, o, x, hx => by rw [List.mem_singleton.1 hx]; show ([110, 97, 109, 101] : List UInt8) ∈ allL; decide
  | .neg a, h, o, x, hx => by
    rcases List.mem_append.1 hx with hx | hx
    · exact flat_all a h o x hx
    · rw [List.mem_singleton.1 hx]; show ([110, 101, 103] : List UInt8) ∈ allL; decide
  | .bin op a b, h, o, x, hx => by
    rcases List.mem_append.1 hx with hx | hx
    · rcases List.mem_append.1 hx with hx | hx
      · exact flat_all a h.2.1 o x hx
      · exact flat_all b h.2.2 _ x hx
    · rw [List.mem_singleton.1 hx]; exact List.mem_append_right _ h.1
  | .cond a b c, h, o, x, hx => by
    rcases List.mem_append.1 hx with hx | hx
    · rcases List.mem_append.1 hx with hx | hx
      · rcases List.mem_append.1 hx with hx | hx
        · exact flat_all a h.1 o x hx
        · exact flat_all b h.2.1 _ x hx
      · exact flat_all c h.2.2 _ x hx
    · rw [List.mem_singleton.1 hx]; show ([105, 102] : List UInt8) ∈ allL; decide
theorem rules_all : ∀ (rs : List Rl), (∀ r ∈ rs, r.tree.ops) → ∀ o, ∀ x ∈ exprsOf o rs, x.op ∈ allL
  | [], _, o, x, hx => by cases hx
  | r :: rs, h, o, x, hx => by
    rcases List.mem_append.1 hx with hx | hx
    · exact flat_all r.tree (h r (List.mem_cons_self ..)) o x hx
    · exact rules_all rs (fun y hy => h y (List.mem_cons_of_mem _ hy)) _ x hx
/-- A root is a row's place. -/
theorem rows_roots : ∀ (rs : List Rl) (o : Nat), ∀ y ∈ rowsOf o rs, y.root < o + sizeOf rs
  | [], o, y, hy => by cases hy
  | r :: rs, o, y, hy => by
    have p := r.tree.size_pos
    have e : sizeOf (r :: rs) = r.tree.size + sizeOf rs := by simp [sizeOf]
    rw [e]
    rcases List.mem_cons.1 hy with rfl | hy
    · show o + r.tree.size - 1 < _; omega
    · have := rows_roots rs (o + r.tree.size) y hy; omega
/-- What reading answers has such signs. -/
def OpsA {α : Type} (P : α → Prop) (x : Option (R α)) : Prop := ∀ ts a, x = some (.ok ts a) → P a
theorem OpsA.next {α β : Type} {x : Option (R α)} {k : List Tok → α → Option (R β)} {P : α → Prop} {Q : β → Prop} (h : OpsA P x) (hk : ∀ ts a, P a → OpsA Q (k ts a)) : OpsA Q (R.next x k) := by
  intro ts b e
  cases x with
  | none => cases e
  | some r =>
    cases r with
    | bad e' p => cases e
    | ok t1 a => exact hk t1 a (h t1 a rfl) ts b e
theorem OpsA.ok {α : Type} {P : α → Prop} {ts : List Tok} {a : α} (h : P a) : OpsA P (some (R.ok ts a)) := fun ts' a' e => by cases e; exact h
theorem OpsA.bad {α : Type} {P : α → Prop} {e p : Nat} : OpsA P (some (R.bad (α := α) e p)) := fun ts a k => by cases k
theorem OpsA.any {α : Type} (x : Option (R α)) : OpsA (fun _ => True) x := fun _ _ _ => trivial
def Md.ops : Md → Prop
  | .more _ a => a.ops | _ => True
theorem level_ops {n : Nat} {s : List UInt8} (h : s ∈ level n) : s ∈ opsL := by
  have e : ∀ n, ∀ s ∈ level n, s ∈ opsL := fun n => by
    match n with
    | 0 => decide
    | 1 => decide
    | n + 2 => show ∀ s ∈ ([[42]] : List (List UInt8)), s ∈ opsL; decide
  exact e n s h
theorem run_ops (en : Nat) : ∀ (f : Nat) (m : Md), m.ops → ∀ (d : Nat) (ts : List Tok), OpsA Tr.ops (run en f m d ts) := by
  intro f
  induction f with
  | zero => intro m _ d ts t a e; cases e
  | succ f ih =>
    intro m hm d ts
    have W : ∀ d ts, OpsA Tr.ops (run en f .whole d ts) := fun d ts => ih .whole trivial d ts
    have F : ∀ d ts, OpsA Tr.ops (run en f .factor d ts) := fun d ts => ih .factor trivial d ts
    have C : ∀ n d ts, OpsA Tr.ops (run en f (.chain n) d ts) := fun n d ts => ih (.chain n) trivial d ts
    have M : ∀ n (a : Tr), a.ops → ∀ d ts, OpsA Tr.ops (run en f (.more n a) d ts) := fun n a h d ts => ih (.more n a) h d ts
    show OpsA _ (body en (run en f) m d ts)
    cases m with
    | whole =>
      simp only [body]
      by_cases h1 : 20 < d
      · rw [if_pos h1]; exact .bad
      rw [if_neg h1]
      by_cases h2 : textOf ts = [105, 102]
      · rw [if_pos h2]
        exact (W _ _).next fun t1 a k1 => (OpsA.any _).next fun t2 _ _ => (W _ _).next fun t3 b k3 => (OpsA.any _).next fun t4 _ _ => (W _ _).next fun t5 c k5 => .ok ⟨k1, k3, k5⟩
      · rw [if_neg h2]; exact C 0 d ts
    | chain n =>
      simp only [body]
      by_cases h1 : 3 ≤ n
      · rw [if_pos h1]; exact F d ts
      · rw [if_neg h1]
        exact (C (n + 1) d ts).next fun t1 a k1 => M n a k1 d t1
    | more n a =>
      simp only [body]
      by_cases h1 : textOf ts ∈ level n
      · rw [if_pos h1]
        refine (C (n + 1) d ts.tail).next fun t1 b k1 => ?_
        have hb : (Tr.bin (textOf ts) a b).ops := ⟨level_ops h1, hm, k1⟩
        by_cases h2 : n = 0
        · rw [if_pos h2]; exact .ok hb
        · rw [if_neg h2]; exact M n _ hb d t1
      · rw [if_neg h1]; exact .ok hm
    | factor =>
      simp only [body]
      by_cases h1 : 20 < d
      · rw [if_pos h1]; exact .bad
      rw [if_neg h1]
      by_cases h2 : textOf ts = [45]
      · rw [if_pos h2]
        exact (F _ _).next fun t1 a k1 => .ok k1
      rw [if_neg h2]
      by_cases h3 : textOf ts = [40]
      · rw [if_pos h3]
        exact (W _ _).next fun t1 a k1 => (OpsA.any _).next fun t2 _ _ => .ok k1
      rw [if_neg h3]
      by_cases h4 : textOf ts = [109, 105, 110] ∨ textOf ts = [109, 97, 120]
      · rw [if_pos h4]
        have ho : textOf ts ∈ opsL := by rcases h4 with h4 | h4 <;> rw [h4] <;> decide
        exact (OpsA.any _).next fun t1 _ _ => (W _ _).next fun t2 a k2 => (OpsA.any _).next fun t3 _ _ => (W _ _).next fun t4 b k4 => (OpsA.any _).next fun t5 _ _ => .ok ⟨ho, k2, k4⟩
      rw [if_neg h4]
      cases ts with
      | nil => exact .bad
      | cons t r =>
        cases hl : leaf t with
        | none => simp only [hl]; exact .bad
        | some x =>
          simp only [hl]
          have hx : x.ops := by
            unfold leaf at hl
            (repeat' split at hl) <;> first | (cases hl; trivial) | cases hl
          exact .ok hx
theorem rulesF_ops (en : Nat) : ∀ (f c : Nat) (ts : List Tok), OpsA (fun rs => ∀ r ∈ rs, Tr.ops r.tree) (rulesF en f c ts)
  | f, c, [] => by cases f <;> exact .ok (fun r h => by cases h)
  | 0, c, t :: ts => fun _ _ e => by cases e
  | f + 1, c, t :: ts => by
    simp only [rulesF]
    by_cases h1 : textOf (t :: ts) ∉ kinds
    · rw [if_pos h1]; exact .bad
    rw [if_neg h1]
    by_cases h2 : 59 < c
    · rw [if_pos h2]; exact .bad
    rw [if_neg h2]
    cases ts with
    | nil => exact .bad
    | cons n r =>
      simp only []
      by_cases h3 : n.kind ≠ 1 ∨ n.text ∈ takenL
      · rw [if_pos h3]; exact .bad
      rw [if_neg h3]
      exact (OpsA.any _).next fun t1 _ _ => (show OpsA Tr.ops (ex en .whole 1 t1) from run_ops en _ .whole trivial 1 t1).next fun t2 x k2 => (OpsA.any _).next fun t3 _ _ => (rulesF_ops en f (c + 1) t3).next fun t4 rs k4 => .ok (fun y hy => by
        rcases List.mem_cons.1 hy with rfl | hy
        · exact k2
        · exact k4 y hy)
theorem parse_ops {s : List UInt8} {t : List Tok} {rs : List Rl} (h : parse s = some (.ok t rs)) : ∀ r ∈ rs, Tr.ops r.tree := by
  unfold parse at h
  obtain ⟨r, hr⟩ : ∃ r, PLex.all PLex.kindOf 0 s = r := ⟨_, rfl⟩
  obtain ⟨q, ts⟩ := r
  rw [hr] at h
  cases q with
  | some q => cases h
  | none => exact rulesF_ops s.length ts.length 0 ts _ _ h
/-- How often each place was told. -/
def usedOf (m : Nat) (l : List Nat) : List Int := (List.range m).map fun n => (l.count n : Int)
theorem usedOf_len (m : Nat) (l : List Nat) : (usedOf m l).length = m := by simp [usedOf]
theorem usedOf_nil (m : Nat) : usedOf m [] = List.replicate m 0 := by
  unfold usedOf
  apply List.ext_getElem
  · simp
  · intro i h1 h2; simp
theorem usedOf_get {m n : Nat} (l : List Nat) (h : n < m) : (usedOf m l)[n]? = some (l.count n : Int) := by
  simp [usedOf, h]
theorem usedOf_snoc (m n : Nat) (l : List Nat) : (usedOf m l).set n ((l.count n : Int) + 1) = usedOf m (l ++ [n]) := by
  apply List.ext_getElem
  · simp [usedOf]
  · intro i h1 h2
    simp only [usedOf, List.getElem_set, List.getElem_map, List.getElem_range, List.count_append, List.count_cons, List.count_nil]
    by_cases hi : n = i
    · subst hi; simp
    · simp [hi]
theorem used_end {rs : List Rl} (h : ∀ r ∈ rs, Tr.ops r.tree) {n : Nat} (hn : n < sizeOf rs) : ((exprsOf 0 rs).flatMap partsOf ++ (rowsOf 0 rs).map (·.root)).count n = 1 := by
  rw [(rules_parts rs h 0).count_eq]
  have : List.range' 0 (sizeOf rs) = List.range (sizeOf rs) := List.range_eq_range'.symm
  rw [this]
  have h1 : (List.range (sizeOf rs)).count n ≤ 1 := List.nodup_iff_count.1 List.nodup_range n
  have h2 : 0 < (List.range (sizeOf rs)).count n := List.count_pos_iff.2 (List.mem_range.2 hn)
  omega
theorem rules_fewP (en : Nat) : ∀ (n c : Nat) (ts : List Tok), ts.length ≤ n → Few ts.length (fun rs => sizeOf rs + rs.length) (rules en c ts)
  | _, c, [], _ => by rw [rules_nil]; exact .ok (by simp [sizeOf])
  | 0, _, t :: ts, h => by simp at h
  | n + 1, c, t :: ts, h => by
    rw [rules_cons]
    by_cases h1 : textOf (t :: ts) ∉ kinds
    · rw [if_pos h1]; exact .bad
    rw [if_neg h1]
    by_cases h2 : 59 < c
    · rw [if_pos h2]; exact .bad
    rw [if_neg h2]
    cases ts with
    | nil => exact .bad
    | cons m r =>
      simp only []
      by_cases h3 : m.kind ≠ 1 ∨ m.text ∈ takenL
      · rw [if_pos h3]; exact .bad
      rw [if_neg h3]
      have hl : r.length + 2 ≤ n + 1 := by simpa using h
      refine (must_few (List.cons_ne_nil _ _) r).next fun t1 _ k1 => (ex_few en .whole 1 t1).next fun t2 x k2 => (must_few (List.cons_ne_nil _ _) t2).next fun t3 _ k3 => ?_
      simp only [Md.sz] at k2
      have hl3 : t3.length ≤ n := by omega
      refine (rules_fewP en n (c + 1) t3 hl3).next fun t4 rs k4 => .ok ?_
      simp only [sizeOf, List.map_cons, List.sum_cons, List.length_cons] at k4 ⊢
      omega
theorem parse_fewP {s : List UInt8} {t : List Tok} {rs : List Rl} (h : parse s = some (.ok t rs)) : sizeOf rs + rs.length ≤ s.length := by
  unfold parse at h
  obtain ⟨r, hr⟩ : ∃ r, PLex.all PLex.kindOf 0 s = r := ⟨_, rfl⟩
  obtain ⟨q, ts⟩ := r
  have hl := PLex.all_lone (K := PLex.kindOf) s.length 0 s (Nat.le_refl _)
  have hn := PLex.all_sum (K := PLex.kindOf) s.length 0 s (Nat.le_refl _)
  rw [hr] at h hl hn
  cases q with
  | some q => cases h
  | none =>
    have hn' : (ts.map (fun x => x.text.length)).sum ≤ s.length := hn
    have h1 : ts.length ≤ (ts.map (fun x => x.text.length)).sum := PLex.sum_len (fun x hx => (hl x hx).ne)
    have h2 := rules_fewP s.length ts.length 0 ts (Nat.le_refl _) _ _ h
    simp only [] at h2
    omega
end PTree

namespace PTree
open PLex (Tok)
def leafOps : List (List UInt8) := [[119, 104, 111, 108, 101], [97, 109, 111, 117, 110, 116], [114, 97, 116, 101], [110, 97, 109, 101]]
def shEx (k : Nat) (x : Ex) : Ex :=
  if x.op ∈ leafOps then x
  else if x.op = [105, 102] then ⟨x.op, x.name, x.value, x.a + k, x.b + k, x.c + k⟩
  else if x.op = [110, 101, 103] then ⟨x.op, x.name, x.value, x.a + k, x.b, x.c⟩
  else ⟨x.op, x.name, x.value, x.a + k, x.b + k, x.c⟩
theorem sh_leaf {k : Nat} {x : Ex} (h : x.op ∈ leafOps) : shEx k x = x := by unfold shEx; rw [if_pos h]
theorem sh_if (k : Nat) (s : List UInt8) (v : Int) (a b c : Nat) : shEx k ⟨[105, 102], s, v, a, b, c⟩ = ⟨[105, 102], s, v, a + k, b + k, c + k⟩ := rfl
theorem sh_neg (k : Nat) (s : List UInt8) (v : Int) (a b c : Nat) : shEx k ⟨[110, 101, 103], s, v, a, b, c⟩ = ⟨[110, 101, 103], s, v, a + k, b, c⟩ := rfl
theorem sh_bin {op : List UInt8} (h : op ∈ opsL) (k : Nat) (s : List UInt8) (v : Int) (a b c : Nat) : shEx k ⟨op, s, v, a, b, c⟩ = ⟨op, s, v, a + k, b + k, c⟩ := by
  have e : ∀ op ∈ opsL, op ∉ leafOps ∧ op ≠ [105, 102] ∧ op ≠ [110, 101, 103] := by decide
  obtain ⟨h1, h2, h3⟩ := e op h
  unfold shEx
  simp only []
  rw [if_neg h1, if_neg h2, if_neg h3]
theorem flat_sh : ∀ (t : Tr), t.ops → ∀ o k, t.flat (o + k) = (t.flat o).map (shEx k)
  | .whole n, _, o, k => rfl
  | .amount n, _, o, k => rfl
  | .rate n, _, o, k => rfl
  | .name s, _, o, k => rfl
  | .neg a, h, o, k => by
    have p := a.size_pos
    simp only [Tr.flat, List.map_append, List.map_cons, List.map_nil, flat_sh a h o k, sh_neg]
    rw [show o + k + a.size - 1 = o + a.size - 1 + k by omega]
  | .bin op a b, h, o, k => by
    have p := a.size_pos
    have q := b.size_pos
    simp only [Tr.flat, List.map_append, List.map_cons, List.map_nil, flat_sh a h.2.1 o k, sh_bin h.1]
    rw [show o + k + a.size = o + a.size + k by omega, flat_sh b h.2.2 (o + a.size) k]
    rw [show o + a.size + k - 1 = o + a.size - 1 + k by omega, show o + a.size + k + b.size - 1 = o + a.size + b.size - 1 + k by omega]
  | .cond a b c, h, o, k => by
    have p := a.size_pos
    have q := b.size_pos
    have r := c.size_pos
    simp only [Tr.flat, List.map_append, List.map_cons, List.map_nil, flat_sh a h.1 o k, sh_if]
    rw [show o + k + a.size = o + a.size + k by omega, flat_sh b h.2.1 (o + a.size) k]
    rw [show o + a.size + k + b.size = o + a.size + b.size + k by omega, flat_sh c h.2.2 (o + a.size + b.size) k]
    rw [show o + a.size + k - 1 = o + a.size - 1 + k by omega, show o + a.size + b.size + k - 1 = o + a.size + b.size - 1 + k by omega, show o + a.size + b.size + k + c.size - 1 = o + a.size + b.size + c.size - 1 + k by omega]
def shRow (k : Nat) (y : Row) : Row := ⟨y.kind, y.name, y.root + k⟩
theorem exprs_sh : ∀ (rs : List Rl), (∀ r ∈ rs, r.tree.ops) → ∀ o k, exprsOf (o + k) rs = (exprsOf o rs).map (shEx k)
  | [], _, o, k => rfl
  | r :: rs, h, o, k => by
    simp only [exprsOf, List.map_append, flat_sh r.tree (h r (List.mem_cons_self ..)) o k]
    rw [show o + k + r.tree.size = o + r.tree.size + k by omega, exprs_sh rs (fun x hx => h x (List.mem_cons_of_mem _ hx))]
theorem rows_sh : ∀ (rs : List Rl) (o k : Nat), rowsOf (o + k) rs = (rowsOf o rs).map (shRow k)
  | [], o, k => rfl
  | r :: rs, o, k => by
    have p := r.tree.size_pos
    simp only [rowsOf, List.map_cons, shRow]
    rw [show o + k + r.tree.size = o + r.tree.size + k by omega, rows_sh rs, show o + r.tree.size + k - 1 = o + r.tree.size - 1 + k by omega]
/-- What is answered, part by part. -/
def rowsA : Option (R (List Rl)) → List Row
  | some (.ok _ rs) => rowsOf 0 rs
  | _ => []
def exsA : Option (R (List Rl)) → List Ex
  | some (.ok _ rs) => exprsOf 0 rs
  | _ => []
def kA : Option (R (List Rl)) → Nat
  | some (.bad k _) => k
  | _ => 0
def qA : Option (R (List Rl)) → Nat
  | some (.bad _ q) => q
  | _ => 0
theorem exsA_all (s : List UInt8) : ∀ x ∈ exsA (parse s), x.op ∈ allL := by
  intro x hx
  obtain ⟨r, hr⟩ : ∃ r, parse s = r := ⟨_, rfl⟩
  rw [hr] at hx
  match r, hr, hx with
  | some (.ok _ rs), hr, hx => exact rules_all rs (parse_ops hr) 0 x hx
theorem exsA_ahead (s : List UInt8) : Ahead 0 (exsA (parse s)) := by
  obtain ⟨r, hr⟩ : ∃ r, parse s = r := ⟨_, rfl⟩
  rw [hr]
  match r, hr with
  | some (.ok _ rs), hr => exact rules_ahead rs (parse_ops hr) 0
  | some (.bad _ _), _ => exact ahead_nil 0
  | none, _ => exact ahead_nil 0
theorem exsA_few (s : List UInt8) : (exsA (parse s)).length + (rowsA (parse s)).length ≤ s.length := by
  obtain ⟨r, hr⟩ : ∃ r, parse s = r := ⟨_, rfl⟩
  rw [hr]
  match r, hr with
  | some (.ok _ rs), hr => have := parse_fewP hr; simp only [exsA, rowsA, exprsOf_len, rowsOf_len]; exact this
  | some (.bad _ _), _ => simp [exsA, rowsA]
  | none, _ => simp [exsA, rowsA]
theorem rowsA_root (s : List UInt8) : ∀ y ∈ rowsA (parse s), y.root < (exsA (parse s)).length := by
  intro y hy
  obtain ⟨r, hr⟩ : ∃ r, parse s = r := ⟨_, rfl⟩
  rw [hr] at hy ⊢
  match r, hr, hy with
  | some (.ok _ rs), hr, hy => have := rows_roots rs 0 y hy; simp only [exsA, exprsOf_len]; omega
theorem joins_fact (s t : List UInt8) (hs : parse s ≠ none) (ht : parse t ≠ none) :
    (kA (parse s) ≠ 0 ∧ rowsA (parse s) = []) ∨ (kA (parse s) = 0 ∧
      ((60 < (rowsA (parse s)).length + (rowsA (parse t)).length ∧ kA (parse (s ++ 10 :: t)) = 9) ∨ ((rowsA (parse s)).length + (rowsA (parse t)).length ≤ 60 ∧
        ((kA (parse t) ≠ 0 ∧ rowsA (parse (s ++ 10 :: t)) = [] ∧ ((kA (parse (s ++ 10 :: t)) = kA (parse t) ∧ qA (parse (s ++ 10 :: t)) = qA (parse t) + s.length + 1) ∨ (kA (parse (s ++ 10 :: t)) = 9 ∧ (kA (parse t) = 2 ∨ kA (parse t) = 9)))) ∨
         (kA (parse t) = 0 ∧ kA (parse (s ++ 10 :: t)) = 0 ∧ rowsA (parse (s ++ 10 :: t)) = rowsA (parse s) ++ (rowsA (parse t)).map (shRow (exsA (parse s)).length) ∧ exsA (parse (s ++ 10 :: t)) = exsA (parse s) ++ (exsA (parse t)).map (shEx (exsA (parse s)).length)))))) := by
  have er1 := parse_er s
  have er2 := parse_er t
  obtain ⟨r1, h1⟩ : ∃ r, parse s = r := ⟨_, rfl⟩
  match r1, h1 with
  | none, h1 => exact absurd h1 hs
  | some (.bad k q), h1 =>
    rw [h1]
    refine .inl ⟨?_, rfl⟩
    show k ≠ 0
    rcases er1 k q h1 with h | h <;> omega
  | some (.ok l1 rs1), h1 =>
    obtain ⟨j1, j2⟩ := parse_join (t := t) h1
    rw [h1]
    refine .inr ⟨rfl, ?_⟩
    obtain ⟨r2, h2⟩ : ∃ r, parse t = r := ⟨_, rfl⟩
    match r2, h2 with
    | none, h2 => exact absurd h2 ht
    | some (.bad k q), h2 =>
      obtain ⟨e', p', h3, h4⟩ := j2 k q h2
      have hk := er2 k q h2
      have h60 := parse_few60 h1
      rw [h2, h3]
      refine .inr ⟨by simp only [rowsA, rowsOf_len, List.length_nil]; omega, .inl ⟨by show k ≠ 0; omega, rfl, ?_⟩⟩
      rcases h4 with ⟨h5, h6⟩ | h5
      · exact .inl ⟨h5, h6⟩
      · exact .inr ⟨h5, hk⟩
    | some (.ok l2 rs2), h2 =>
      obtain ⟨j3, j4⟩ := j1 l2 rs2 h2
      rw [h2]
      simp only [rowsA, exsA, rowsOf_len, exprsOf_len]
      by_cases h60 : rs1.length + rs2.length ≤ 60
      · obtain ⟨l3, h3⟩ := j3 h60
        rw [h3]
        refine .inr ⟨h60, .inr ⟨rfl, rfl, ?_, ?_⟩⟩
        · simp only [rowsOf_append, rows_sh]
        · simp only [exprsOf_append, exprs_sh rs2 (parse_ops h2)]
      · obtain ⟨p, h3⟩ := j4 (by omega)
        rw [h3]
        exact .inl ⟨by omega, rfl⟩
end PTree

namespace PLex
theorem all_within {K : List UInt8 → Nat} : ∀ (n p : Nat) (l : List UInt8), l.length ≤ n → (∀ q, (all K p l).1 = some q → q ≤ p + l.length) ∧ ∀ x ∈ (all K p l).2, x.at_ ≤ p + l.length
  | _, p, [], _ => by rw [all_nil]; exact ⟨fun q e => (by cases e), fun x hx => by cases hx⟩
  | 0, _, _ :: _, h => by simp at h
  | n + 1, p, c :: r, h => by
    have hs := step_len K c r
    have hd : ((c :: r).drop (step K (c :: r)).2).length = (c :: r).length - (step K (c :: r)).2 := List.length_drop
    have hl : ((c :: r).drop (step K (c :: r)).2).length ≤ n := by rw [hd]; omega
    obtain ⟨i1, i2⟩ := all_within (K := K) n (p + (step K (c :: r)).2) ((c :: r).drop (step K (c :: r)).2) hl
    rw [hd] at i1 i2
    rw [all_cons]
    by_cases h0 : (step K (c :: r)).1 = 0
    · rw [if_pos h0]; exact ⟨fun q e => (by cases e; omega), fun x hx => by cases hx⟩
    rw [if_neg h0]
    by_cases h6 : (step K (c :: r)).1 = 6
    · rw [if_pos h6]; exact ⟨fun q e => (by have := i1 q e; omega), fun x hx => by have := i2 x hx; omega⟩
    · rw [if_neg h6]
      refine ⟨fun q e => (by have := i1 q e; omega), fun x hx => ?_⟩
      rcases List.mem_cons.1 hx with rfl | hx
      · show p ≤ _; omega
      · have := i2 x hx; omega
end PLex
namespace PTree
open PLex (Tok)
def Wi (en : Nat) (ts : List Tok) : Prop := ∀ y ∈ ts, y.at_ ≤ en
def Pb (en : Nat) {α : Type} (x : Option (R α)) : Prop := (∀ e p, x = some (.bad e p) → p ≤ en) ∧ ∀ t a, x = some (.ok t a) → Wi en t
variable {en : Nat}
theorem Pb.next {α β : Type} {x : Option (R α)} {k : List Tok → α → Option (R β)} (h : Pb en x) (hk : ∀ t a, Wi en t → Pb en (k t a)) : Pb en (R.next x k) := by
  match x, h with
  | none, _ => exact ⟨fun _ _ e => (by cases e), fun _ _ e => by cases e⟩
  | some (.bad e p), h => exact ⟨fun e' p' k => (by cases k; exact h.1 _ _ rfl), fun _ _ k => by cases k⟩
  | some (.ok t a), h => exact hk t a (h.2 t a rfl)
theorem Pb.ok {α : Type} {t : List Tok} {a : α} (h : Wi en t) : Pb en (some (.ok t a)) := ⟨fun _ _ e => (by cases e), fun _ _ e => by cases e; exact h⟩
theorem Pb.bad {α : Type} {e p : Nat} (h : p ≤ en) : Pb en (some (.bad (α := α) e p)) := ⟨fun _ _ e => (by cases e; exact h), fun _ _ e => by cases e⟩
theorem Wi.tail {ts : List Tok} (h : Wi en ts) : Wi en ts.tail := fun y hy => h y (List.mem_of_mem_tail hy)
theorem Wi.place {ts : List Tok} (h : Wi en ts) : placeOf en ts ≤ en := by
  cases ts with
  | nil => exact Nat.le_refl _
  | cons t r => exact h t (List.mem_cons_self ..)
theorem must_pb {s : List UInt8} {ts : List Tok} (h : Wi en ts) : Pb en (must en s ts) := by
  unfold must
  by_cases hs : textOf ts = s
  · rw [if_pos hs]; exact .ok h.tail
  · rw [if_neg hs]; exact .bad h.place
theorem body_pb {X : Md → Nat → List Tok → Option (R Tr)} (h : ∀ m d ts, Wi en ts → Pb en (X m d ts)) (m : Md) (d : Nat) {ts : List Tok} (hw : Wi en ts) : Pb en (body en X m d ts) := by
  cases m with
  | whole =>
    simp only [body]
    by_cases h1 : 20 < d
    · rw [if_pos h1]; exact .bad hw.place
    rw [if_neg h1]
    by_cases h2 : textOf ts = [105, 102]
    · rw [if_pos h2]
      exact (h _ _ _ hw.tail).next fun t1 a k1 => (must_pb k1).next fun t2 _ k2 => (h _ _ _ k2).next fun t3 b k3 => (must_pb k3).next fun t4 _ k4 => (h _ _ _ k4).next fun t5 c k5 => .ok k5
    · rw [if_neg h2]; exact h _ _ _ hw
  | chain n =>
    simp only [body]
    by_cases h1 : 3 ≤ n
    · rw [if_pos h1]; exact h _ _ _ hw
    · rw [if_neg h1]; exact (h _ _ _ hw).next fun t1 a k1 => h _ _ _ k1
  | more n a =>
    simp only [body]
    by_cases h1 : textOf ts ∈ level n
    · rw [if_pos h1]
      refine (h _ _ _ hw.tail).next fun t1 b k1 => ?_
      by_cases h2 : n = 0
      · rw [if_pos h2]; exact .ok k1
      · rw [if_neg h2]; exact h _ _ _ k1
    · rw [if_neg h1]; exact .ok hw
  | factor =>
    simp only [body]
    by_cases h1 : 20 < d
    · rw [if_pos h1]; exact .bad hw.place
    rw [if_neg h1]
    by_cases h2 : textOf ts = [45]
    · rw [if_pos h2]; exact (h _ _ _ hw.tail).next fun t1 a k1 => .ok k1
    rw [if_neg h2]
    by_cases h3 : textOf ts = [40]
    · rw [if_pos h3]; exact (h _ _ _ hw.tail).next fun t1 a k1 => (must_pb k1).next fun t2 _ k2 => .ok k2
    rw [if_neg h3]
    by_cases h4 : textOf ts = [109, 105, 110] ∨ textOf ts = [109, 97, 120]
    · rw [if_pos h4]
      exact (must_pb hw.tail).next fun t1 _ k1 => (h _ _ _ k1).next fun t2 a k2 => (must_pb k2).next fun t3 _ k3 => (h _ _ _ k3).next fun t4 b k4 => (must_pb k4).next fun t5 _ k5 => .ok k5
    rw [if_neg h4]
    cases ts with
    | nil => exact .bad (Nat.le_refl _)
    | cons t r =>
      simp only []
      cases leaf t with
      | none => exact .bad (hw t (List.mem_cons_self ..))
      | some x => exact .ok hw.tail
theorem run_pb : ∀ (f : Nat) (m : Md) (d : Nat) (ts : List Tok), Wi en ts → Pb en (run en f m d ts)
  | 0, _, _, _, _ => ⟨fun _ _ h => (by cases h), fun _ _ h => by cases h⟩
  | f + 1, m, d, _, h => body_pb (fun m d ts h => run_pb f m d ts h) m d h
theorem rulesF_pb : ∀ (f c : Nat) (ts : List Tok), Wi en ts → Pb en (rulesF en f c ts)
  | f, c, [], h => by cases f <;> exact .ok h
  | 0, c, t :: ts, _ => ⟨fun _ _ h => (by cases h), fun _ _ h => by cases h⟩
  | f + 1, c, t :: ts, hw => by
    simp only [rulesF]
    by_cases h1 : textOf (t :: ts) ∉ kinds
    · rw [if_pos h1]; exact .bad (hw t (List.mem_cons_self ..))
    rw [if_neg h1]
    by_cases h2 : 59 < c
    · rw [if_pos h2]; exact .bad (hw t (List.mem_cons_self ..))
    rw [if_neg h2]
    have hw1 : Wi en ts := hw.tail
    cases ts with
    | nil => exact .bad (Nat.le_refl _)
    | cons m r =>
      simp only []
      by_cases h3 : m.kind ≠ 1 ∨ m.text ∈ takenL
      · rw [if_pos h3]; exact .bad (hw1 m (List.mem_cons_self ..))
      rw [if_neg h3]
      have hw2 : Wi en r := hw1.tail
      exact (must_pb hw2).next fun t1 _ k1 => (show Pb en (ex en .whole 1 t1) from run_pb _ _ _ _ k1).next fun t2 x k2 => (must_pb k2).next fun t3 _ k3 => (rulesF_pb f (c + 1) t3 k3).next fun t4 rs k4 => .ok k4
theorem qA_le (s : List UInt8) : qA (parse s) ≤ s.length := by
  obtain ⟨h1, h2⟩ := PLex.all_within (K := PLex.kindOf) s.length 0 s (Nat.le_refl _)
  unfold parse
  obtain ⟨r, hr⟩ : ∃ r, PLex.all PLex.kindOf 0 s = r := ⟨_, rfl⟩
  rw [hr] at h1 h2 ⊢
  obtain ⟨q, ts⟩ := r
  cases q with
  | some q => have := h1 q rfl; show q ≤ _; omega
  | none =>
    have hp := (rulesF_pb (en := s.length) ts.length 0 ts (fun y hy => by have := h2 y hy; omega)).1
    show qA (rulesF s.length ts.length 0 ts) ≤ _
    generalize rulesF s.length ts.length 0 ts = x at hp
    match x, hp with
    | none, _ => exact Nat.zero_le _
    | some (.ok _ _), _ => exact Nat.zero_le _
    | some (.bad e p), hp => exact hp e p rfl
end PTree
