/-
  Tokens of the same kinds and texts are read to the same rules, or to the same error. Plain facts; no program is named here.
-/
import Derived.Test.YtjcfgdldmgmiaaaDoorTreeRules
namespace PTree
open PLex (Tok Same)
/-- Read to the same: what is left is of the same kinds and texts. -/
def Rel {α : Type} : Option (R α) → Option (R α) → Prop
  | some (.bad e _), some (.bad e' _) => e = e'
  | some (.ok ts a), some (.ok us b) => Same ts us ∧ a = b
  | none, none => True
  | _, _ => False
theorem next_rel {α β : Type} {x y : Option (R α)} {k l : List Tok → α → Option (R β)} (h : Rel x y) (hk : ∀ ts us a, Same ts us → Rel (k ts a) (l us a)) : Rel (R.next x k) (R.next y l) := by
  match x, y, h with
  | some (.bad e _), some (.bad e' _), h => exact h
  | some (.ok ts a), some (.ok us b), h => obtain ⟨h1, rfl⟩ := h; exact hk _ _ _ h1
  | none, none, _ => trivial
theorem same_cons {t u : Tok} {ts us : List Tok} (h : Same (t :: ts) (u :: us)) : t.kind = u.kind ∧ t.text = u.text ∧ Same ts us := by
  have h' : (t.kind, t.text) = (u.kind, u.text) ∧ ts.map (fun x => (x.kind, x.text)) = us.map (fun x => (x.kind, x.text)) := by
    have := h
    unfold PLex.Same at this
    simpa using this
  exact ⟨(Prod.mk.inj h'.1).1, (Prod.mk.inj h'.1).2, h'.2⟩
theorem same_nil {us : List Tok} (h : Same [] us) : us = [] := by
  have : us.length = 0 := by have := congrArg List.length h; simpa using this.symm
  exact List.eq_nil_of_length_eq_zero this
theorem same_len {ts us : List Tok} (h : Same ts us) : ts.length = us.length := by have := congrArg List.length h; simpa using this
theorem same_tail {ts us : List Tok} (h : Same ts us) : Same ts.tail us.tail := by
  cases ts with
  | nil => rw [same_nil h]; rfl
  | cons t ts =>
    cases us with
    | nil => have := same_len h; simp at this
    | cons u us => exact (same_cons h).2.2
theorem textOf_same {ts us : List Tok} (h : Same ts us) : textOf ts = textOf us := by
  cases ts with
  | nil => rw [same_nil h]
  | cons t ts =>
    cases us with
    | nil => have := same_len h; simp at this
    | cons u us =>
      obtain ⟨h1, h2, _⟩ := same_cons h
      show (if t.kind = 1 ∨ t.kind = 5 then t.text else []) = (if u.kind = 1 ∨ u.kind = 5 then u.text else [])
      rw [h1, h2]
theorem must_rel {en en' : Nat} {s : List UInt8} {ts us : List Tok} (h : Same ts us) : Rel (must en s ts) (must en' s us) := by
  unfold must
  rw [textOf_same h]
  by_cases hs : textOf us = s
  · rw [if_pos hs, if_pos hs]; exact ⟨same_tail h, rfl⟩
  · rw [if_neg hs, if_neg hs]; rfl
theorem leaf_same {t u : Tok} (h1 : t.kind = u.kind) (h2 : t.text = u.text) : leaf t = leaf u := by unfold leaf; rw [h1, h2]
theorem body_rel {en en' : Nat} {X Y : Md → Nat → List Tok → Option (R Tr)} (h : ∀ m d ts us, Same ts us → Rel (X m d ts) (Y m d us)) (m : Md) (d : Nat) {ts us : List Tok} (hs : Same ts us) : Rel (body en X m d ts) (body en' Y m d us) := by
  have ht := textOf_same hs
  cases m with
  | whole =>
    simp only [body]
    by_cases h1 : 20 < d
    · rw [if_pos h1, if_pos h1]; rfl
    rw [if_neg h1, if_neg h1, ht]
    by_cases h2 : textOf us = [105, 102]
    · rw [if_pos h2, if_pos h2]
      exact next_rel (h _ _ _ _ (same_tail hs)) fun _ _ _ k1 => next_rel (must_rel k1) fun _ _ _ k2 => next_rel (h _ _ _ _ k2) fun _ _ _ k3 => next_rel (must_rel k3) fun _ _ _ k4 => next_rel (h _ _ _ _ k4) fun _ _ _ k5 => ⟨k5, rfl⟩
    · rw [if_neg h2, if_neg h2]; exact h _ _ _ _ hs
  | chain n =>
    simp only [body]
    by_cases h1 : 3 ≤ n
    · rw [if_pos h1, if_pos h1]; exact h _ _ _ _ hs
    · rw [if_neg h1, if_neg h1]
      exact next_rel (h _ _ _ _ hs) fun _ _ _ k1 => h _ _ _ _ k1
  | more n a =>
    simp only [body, ht]
    by_cases h1 : textOf us ∈ level n
    · rw [if_pos h1, if_pos h1]
      refine next_rel (h _ _ _ _ (same_tail hs)) fun _ _ _ k1 => ?_
      by_cases h2 : n = 0
      · rw [if_pos h2, if_pos h2]; exact ⟨k1, rfl⟩
      · rw [if_neg h2, if_neg h2]; exact h _ _ _ _ k1
    · rw [if_neg h1, if_neg h1]; exact ⟨hs, rfl⟩
  | factor =>
    simp only [body, ht]
    by_cases h1 : 20 < d
    · rw [if_pos h1, if_pos h1]; rfl
    rw [if_neg h1, if_neg h1]
    by_cases h2 : textOf us = [45]
    · rw [if_pos h2, if_pos h2]
      exact next_rel (h _ _ _ _ (same_tail hs)) fun _ _ _ k1 => ⟨k1, rfl⟩
    rw [if_neg h2, if_neg h2]
    by_cases h3 : textOf us = [40]
    · rw [if_pos h3, if_pos h3]
      exact next_rel (h _ _ _ _ (same_tail hs)) fun _ _ _ k1 => next_rel (must_rel k1) fun _ _ _ k2 => ⟨k2, rfl⟩
    rw [if_neg h3, if_neg h3]
    by_cases h4 : textOf us = [109, 105, 110] ∨ textOf us = [109, 97, 120]
    · rw [if_pos h4, if_pos h4]
      exact next_rel (must_rel (same_tail hs)) fun _ _ _ k1 => next_rel (h _ _ _ _ k1) fun _ _ _ k2 => next_rel (must_rel k2) fun _ _ _ k3 => next_rel (h _ _ _ _ k3) fun _ _ _ k4 => next_rel (must_rel k4) fun _ _ _ k5 => ⟨k5, rfl⟩
    rw [if_neg h4, if_neg h4]
    cases ts with
    | nil => rw [same_nil hs]; rfl
    | cons t r =>
      cases us with
      | nil => have := same_len hs; simp at this
      | cons u r' =>
        obtain ⟨e1, e2, e3⟩ := same_cons hs
        simp only []
        rw [leaf_same e1 e2]
        cases leaf u with
        | none => rfl
        | some x => exact ⟨e3, rfl⟩
theorem run_rel {en en' : Nat} : ∀ (f : Nat) (m : Md) (d : Nat) (ts us : List Tok), Same ts us → Rel (run en f m d ts) (run en' f m d us)
  | 0, _, _, _, _, _ => trivial
  | f + 1, m, d, _, _, h => body_rel (fun m d ts us h => run_rel f m d ts us h) m d h
theorem ex_rel {en en' : Nat} (m : Md) (d : Nat) {ts us : List Tok} (h : Same ts us) : Rel (ex en m d ts) (ex en' m d us) := by
  unfold ex
  rw [same_len h]
  exact run_rel _ m d ts us h
theorem rulesF_rel {en en' : Nat} : ∀ (f c : Nat) (ts us : List Tok), Same ts us → Rel (rulesF en f c ts) (rulesF en' f c us)
  | f, c, [], us, h => by rw [same_nil h]; cases f <;> exact ⟨rfl, rfl⟩
  | 0, c, t :: ts, us, h => by
    cases us with
    | nil => have := same_len h; simp at this
    | cons u us => trivial
  | f + 1, c, t :: ts, us, h => by
    cases us with
    | nil => have := same_len h; simp at this
    | cons u us =>
      obtain ⟨e1, e2, e3⟩ := same_cons h
      simp only [rulesF, textOf_same h]
      by_cases h1 : textOf (u :: us) ∉ kinds
      · rw [if_pos h1, if_pos h1]; rfl
      rw [if_neg h1, if_neg h1]
      by_cases h2 : 59 < c
      · rw [if_pos h2, if_pos h2]; rfl
      rw [if_neg h2, if_neg h2]
      cases ts with
      | nil => rw [same_nil e3]; rfl
      | cons n r =>
        cases us with
        | nil => have := same_len e3; simp at this
        | cons n' r' =>
          obtain ⟨f1, f2, f3⟩ := same_cons e3
          simp only [f1, f2]
          by_cases h3 : n'.kind ≠ 1 ∨ n'.text ∈ takenL
          · rw [if_pos h3, if_pos h3]; rfl
          rw [if_neg h3, if_neg h3]
          exact next_rel (must_rel f3) fun _ _ _ k1 => next_rel (ex_rel .whole 1 k1) fun _ _ _ k2 => next_rel (must_rel k2) fun _ _ _ k3 => next_rel (rulesF_rel f (c + 1) _ _ k3) fun _ _ _ k4 => ⟨k4, rfl⟩
theorem rules_rel {en en' : Nat} (c : Nat) {ts us : List Tok} (h : Same ts us) : Rel (rules en c ts) (rules en' c us) := by
  unfold rules
  rw [same_len h]
  exact rulesF_rel _ c ts us h
/-- Tokens, each between a blank and a byte 10. -/
def wideOf (l : List Tok) : List UInt8 := l.flatMap (fun x => 32 :: (x.text ++ [10]))
theorem wideOf_snoc (l : List Tok) (x : Tok) : wideOf (l ++ [x]) = wideOf l ++ (32 :: (x.text ++ [10])) := by simp [wideOf]
theorem wide_toks {K : List UInt8 → Nat} : ∀ (l : List Tok) (p : Nat), (∀ x ∈ l, PLex.Lone K x.kind x.text) → (PLex.all K p (wideOf l)).1 = none ∧ Same (PLex.all K p (wideOf l)).2 l
  | [], p, _ => by simp [wideOf, PLex.all_nil]; rfl
  | x :: l, p, h => by
    have e : wideOf (x :: l) = 32 :: (x.text ++ 10 :: wideOf l) := by simp [wideOf]
    rw [e, PLex.all_blank, PLex.all_word (h x (List.mem_cons_self ..)) PLex.sep_line, PLex.all_line]
    obtain ⟨h1, h2⟩ := wide_toks l (p + 1 + x.text.length + 1) (fun y hy => h y (List.mem_cons_of_mem _ hy))
    refine ⟨h1, ?_⟩
    unfold PLex.Same at h2 ⊢
    simp only [List.map_cons, h2]
theorem parse_wide {s : List UInt8} {ts : List Tok} (h : PLex.all PLex.kindOf 0 s = (none, ts)) : Rel (parse s) (parse (wideOf ts)) := by
  have hl := PLex.all_lone (K := PLex.kindOf) s.length 0 s (Nat.le_refl _)
  rw [h] at hl
  obtain ⟨h1, h2⟩ := wide_toks ts 0 hl
  unfold parse
  obtain ⟨r, hr⟩ : ∃ r, PLex.all PLex.kindOf 0 (wideOf ts) = r := ⟨_, rfl⟩
  rw [h, hr]
  rw [hr] at h1 h2
  obtain ⟨a, b⟩ := r
  simp only [] at h1 h2
  subst h1
  exact rules_rel 0 h2.symm
end PTree
