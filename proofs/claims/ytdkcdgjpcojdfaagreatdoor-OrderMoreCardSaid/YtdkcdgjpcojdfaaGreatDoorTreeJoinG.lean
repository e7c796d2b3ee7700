/-
  Two texts of rules, a byte 10 between: what both are read to. Plain facts; no program is named here.
-/
import Derived.Test.YtdkcdgjpcojdfaaGreatDoorPM

namespace PTree
open PLex (Tok)

/-- What is read with something left is read the same with more behind. -/
def EN {α : Type} (us ts : List Tok) (x y : Option (R α)) : Prop := ∀ t2 a, x = some (.ok t2 a) → t2 ≠ [] → ts ≠ [] ∧ y = some (.ok (t2 ++ us) a)
theorem EN.next {α β : Type} {us ts : List Tok} {x y : Option (R α)} {k l : List Tok → α → Option (R β)} (h : EN us ts x y) (hk : ∀ t1 a, EN us t1 (k t1 a) (l (t1 ++ us) a)) : EN us ts (R.next x k) (R.next y l) := by
  intro t2 b e h2
  match x, h, e with
  | some (.ok t1 a), h, e =>
    obtain ⟨h3, h4⟩ := hk t1 a t2 b e h2
    obtain ⟨h5, h6⟩ := h t1 a rfl h3
    exact ⟨h5, by rw [h6]; exact h4⟩
theorem EN.ok {α : Type} {us ts : List Tok} {a : α} : EN us ts (some (.ok ts a)) (some (.ok (ts ++ us) a)) := fun t2 b e h2 => by
  cases e; exact ⟨h2, rfl⟩
theorem EN.bad {α : Type} {us ts : List Tok} {e p : Nat} {y : Option (R α)} : EN us ts (some (.bad e p)) y := fun _ _ e _ => by cases e
/-- Behind a token that is there. -/
theorem EN.tail {α : Type} {us ts r : List Tok} {t : Tok} {x y : Option (R α)} (h : EN us r x y) : EN us (t :: ts) x y := fun t2 a e h2 => ⟨List.cons_ne_nil _ _, (h t2 a e h2).2⟩
theorem must_en {en en' : Nat} {s : List UInt8} (hs : s ≠ []) (us ts : List Tok) : EN us ts (must en s ts) (must en' s (ts ++ us)) := by
  intro t2 a e h2
  unfold must at e ⊢
  cases ts with
  | nil =>
    have : textOf [] = [] := rfl
    rw [this, if_neg (fun k => hs k.symm)] at e; cases e
  | cons t r =>
    have ht : textOf ((t :: r) ++ us) = textOf (t :: r) := rfl
    rw [ht]
    by_cases h : textOf (t :: r) = s
    · rw [if_pos h] at e ⊢
      cases e
      exact ⟨List.cons_ne_nil _ _, rfl⟩
    · rw [if_neg h] at e; cases e
theorem body_en {en en' : Nat} {us : List Tok} {X Y : Md → Nat → List Tok → Option (R Tr)} (h : ∀ m d ts, EN us ts (X m d ts) (Y m d (ts ++ us))) (m : Md) (d : Nat) (ts : List Tok) : EN us ts (body en X m d ts) (body en' Y m d (ts ++ us)) := by
  cases ts with
  | nil =>
    have t0 : textOf [] = [] := rfl
    intro t2 a e h2
    cases m with
    | whole =>
      simp only [body, t0] at e
      by_cases h1 : 20 < d
      · rw [if_pos h1] at e; cases e
      rw [if_neg h1, if_neg (by decide)] at e
      exact absurd rfl (h _ _ [] t2 a e h2).1
    | chain n =>
      simp only [body] at e
      by_cases h1 : 3 ≤ n
      · rw [if_pos h1] at e
        exact absurd rfl (h _ _ [] t2 a e h2).1
      · rw [if_neg h1] at e
        have := (EN.next (l := fun t a => Y (.more n a) d t) (h (.chain (n + 1)) d []) fun t1 a => h (.more n a) d t1) t2 a e h2
        exact absurd rfl this.1
    | more n b =>
      have hn : ([] : List UInt8) ∉ level n := fun k => level_ne k rfl
      simp only [body, t0] at e
      rw [if_neg hn] at e
      cases e; exact absurd rfl h2
    | factor =>
      simp only [body, t0] at e
      by_cases h1 : 20 < d
      · rw [if_pos h1] at e; cases e
      rw [if_neg h1, if_neg (by decide), if_neg (by decide), if_neg (by decide)] at e
      cases e
  | cons t r =>
    have ht : textOf ((t :: r) ++ us) = textOf (t :: r) := rfl
    have hl : ((t :: r) ++ us).tail = (t :: r).tail ++ us := rfl
    have hr : (t :: r).tail = r := rfl
    have H : ∀ m d, EN us (t :: r) (X m d r) (Y m d (r ++ us)) := fun m d => (h m d r).tail
    cases m with
    | whole =>
      simp only [body, ht, hl, hr]
      by_cases h1 : 20 < d
      · rw [if_pos h1]; exact .bad
      rw [if_neg h1, if_neg h1]
      by_cases h2 : textOf (t :: r) = [105, 102]
      · rw [if_pos h2, if_pos h2]
        exact (H _ _).next fun t1 a => (must_en (List.cons_ne_nil _ _) us t1).next fun t2 _ => (h _ _ _).next fun t3 b => (must_en (List.cons_ne_nil _ _) us t3).next fun t4 _ => (h _ _ _).next fun t5 c => .ok
      · rw [if_neg h2, if_neg h2]; exact h _ _ _
    | chain n =>
      simp only [body]
      by_cases h1 : 3 ≤ n
      · rw [if_pos h1, if_pos h1]; exact h _ _ _
      · rw [if_neg h1, if_neg h1]
        exact (h _ _ _).next fun t1 a => h _ _ _
    | more n a =>
      simp only [body, ht, hl, hr]
      by_cases h1 : textOf (t :: r) ∈ level n
      · rw [if_pos h1, if_pos h1]
        refine (H _ _).next fun t1 b => ?_
        by_cases h2 : n = 0
        · rw [if_pos h2, if_pos h2]; exact .ok
        · rw [if_neg h2, if_neg h2]; exact h _ _ _
      · rw [if_neg h1, if_neg h1]; exact .ok
    | factor =>
      simp only [body, ht, hl, hr]
      by_cases h1 : 20 < d
      · rw [if_pos h1]; exact .bad
      rw [if_neg h1, if_neg h1]
      by_cases h2 : textOf (t :: r) = [45]
      · rw [if_pos h2, if_pos h2]
        exact (H _ _).next fun t1 a => .ok
      rw [if_neg h2, if_neg h2]
      by_cases h3 : textOf (t :: r) = [40]
      · rw [if_pos h3, if_pos h3]
        exact (H _ _).next fun t1 a => (must_en (List.cons_ne_nil _ _) us t1).next fun t2 _ => .ok
      rw [if_neg h3, if_neg h3]
      by_cases h4 : textOf (t :: r) = [109, 105, 110] ∨ textOf (t :: r) = [109, 97, 120]
      · rw [if_pos h4, if_pos h4]
        exact ((must_en (List.cons_ne_nil _ _) us r).tail).next fun t1 _ => (h _ _ _).next fun t2 a => (must_en (List.cons_ne_nil _ _) us t2).next fun t3 _ => (h _ _ _).next fun t4 b => (must_en (List.cons_ne_nil _ _) us t4).next fun t5 _ => .ok
      rw [if_neg h4, if_neg h4]
      rw [List.cons_append]
      simp only []
      cases leaf t with
      | none => exact .bad
      | some x => exact EN.tail .ok
theorem run_en {en en' : Nat} (us : List Tok) : ∀ (f : Nat) (m : Md) (d : Nat) (ts : List Tok), EN us ts (run en f m d ts) (run en' f m d (ts ++ us))
  | 0, _, _, _ => fun _ _ e _ => by cases e
  | f + 1, m, d, ts => body_en (fun m d ts => run_en us f m d ts) m d ts
theorem ex_en {en en' : Nat} (us : List Tok) (m : Md) (d : Nat) (ts : List Tok) : EN us ts (ex en m d ts) (ex en' m d (ts ++ us)) := by
  intro t2 a e h2
  obtain ⟨h3, h4⟩ := run_en (en' := en') us _ m d ts t2 a e h2
  exact ⟨h3, run_ex h4⟩
/-- Rules that are read whole, with more behind. -/
theorem rules_more {en en' : Nat} (us : List Tok) : ∀ (n c : Nat) (ts left : List Tok) (rs : List Rl), ts.length ≤ n → rules en c ts = some (.ok left rs) → left = [] ∧ rules en' c (ts ++ us) = R.next (rules en' (c + rs.length) us) fun t l => some (.ok t (rs ++ l))
  | _, c, [], left, rs, _, e => by
    rw [rules_nil] at e
    cases e
    refine ⟨rfl, ?_⟩
    simp only [List.nil_append, List.length_nil, Nat.add_zero]
    cases rules en' c us with
    | none => rfl
    | some r => cases r <;> rfl
  | 0, _, _ :: _, _, _, h, _ => by simp at h
  | n + 1, c, t :: ts, left, rs, h, e => by
    rw [List.cons_append, rules_cons]
    rw [rules_cons] at e
    have ht : textOf (t :: (ts ++ us)) = textOf (t :: ts) := rfl
    rw [ht]
    by_cases h1 : textOf (t :: ts) ∉ kinds
    · rw [if_pos h1] at e; cases e
    rw [if_neg h1] at e ⊢
    by_cases h2 : 59 < c
    · rw [if_pos h2] at e; cases e
    rw [if_neg h2] at e ⊢
    cases ts with
    | nil => cases e
    | cons m r =>
      simp only [] at e
      rw [List.cons_append]
      simp only []
      by_cases h3 : m.kind ≠ 1 ∨ m.text ∈ takenL
      · rw [if_pos h3] at e; cases e
      rw [if_neg h3] at e ⊢
      obtain ⟨x1, hx1⟩ : ∃ x, must en [61] r = x := ⟨_, rfl⟩
      rw [hx1] at e
      match x1, hx1, e with
      | some (.ok t1 u), hx1, e =>
        have e : R.next (ex en .whole 1 t1) _ = _ := e
        obtain ⟨x2, hx2⟩ : ∃ x, ex en .whole 1 t1 = x := ⟨_, rfl⟩
        rw [hx2] at e
        match x2, hx2, e with
        | some (.ok t2 x), hx2, e =>
          have e : R.next (must en [59] t2) _ = _ := e
          obtain ⟨x3, hx3⟩ : ∃ x, must en [59] t2 = x := ⟨_, rfl⟩
          rw [hx3] at e
          match x3, hx3, e with
          | some (.ok t3 v), hx3, e =>
            have e : R.next (rules en (c + 1) t3) _ = _ := e
            obtain ⟨x4, hx4⟩ : ∃ x, rules en (c + 1) t3 = x := ⟨_, rfl⟩
            rw [hx4] at e
            match x4, hx4, e with
            | some (.ok t4 rs2), hx4, e =>
              have e : some (R.ok t4 _) = _ := e
              have n2 : t2 ≠ [] := by
                rintro rfl
                unfold must at hx3
                rw [if_neg (by decide)] at hx3; cases hx3
              have k2 := ex_en (en := en) (en' := en') us .whole 1 t1 t2 x hx2 n2
              have n1 := k2.1
              have k1 := (must_en (en := en) (en' := en') (s := [61]) (List.cons_ne_nil _ _) us r t1 u hx1 n1).2
              have k3 : must en' [59] (t2 ++ us) = some (.ok (t3 ++ us) v) := by
                unfold must at hx3 ⊢
                cases t2 with
                | nil => exact absurd rfl n2
                | cons q t2 =>
                  have hq : textOf ((q :: t2) ++ us) = textOf (q :: t2) := rfl
                  rw [hq]
                  by_cases h5 : textOf (q :: t2) = [59]
                  · rw [if_pos h5] at hx3 ⊢; cases hx3; rfl
                  · rw [if_neg h5] at hx3; cases hx3
              have l1 : t1.length + 1 ≤ r.length := by
                obtain ⟨y, hy, hy2⟩ := must_good (en := en) (s := [61]) (List.cons_ne_nil _ _) r
                rw [hx1] at hy; cases hy; exact hy2 _ _ rfl
              have l2 : t2.length + 1 ≤ t1.length := by
                obtain ⟨y, hy, hy2⟩ := ex_good en .whole 1 t1
                rw [hx2] at hy; cases hy; exact hy2 _ _ rfl
              have l3 : t3.length + 1 ≤ t2.length := by
                obtain ⟨y, hy, hy2⟩ := must_good (en := en) (s := [59]) (List.cons_ne_nil _ _) t2
                rw [hx3] at hy; cases hy; exact hy2 _ _ rfl
              simp only [List.length_cons] at h
              obtain ⟨h6, h7⟩ := rules_more (en := en) (en' := en') us n (c + 1) t3 t4 rs2 (by omega) hx4
              cases e
              refine ⟨h6, ?_⟩
              rw [k1]
              show R.next (ex en' .whole 1 (t1 ++ us)) _ = _
              rw [k2.2]
              show R.next (must en' [59] (t2 ++ us)) _ = _
              rw [k3]
              show R.next (rules en' (c + 1) (t3 ++ us)) _ = _
              rw [h7, List.length_cons, show c + (rs2.length + 1) = c + 1 + rs2.length by omega]
              cases rules en' (c + 1 + rs2.length) us with
              | none => rfl
              | some r => cases r <;> rfl

/-- Read to the same, but for places: those are k farther. -/
def Rs {α : Type} (k : Nat) : Option (R α) → Option (R α) → Prop
  | some (.bad e p), some (.bad e' p') => e' = e ∧ p' = p + k
  | some (.ok ts a), some (.ok us b) => us = ts.map (Tok.shift k) ∧ a = b
  | none, none => True
  | _, _ => False
theorem next_rs {α β : Type} {k : Nat} {x y : Option (R α)} {f g : List Tok → α → Option (R β)} (h : Rs k x y) (hk : ∀ ts a, Rs k (f ts a) (g (ts.map (Tok.shift k)) a)) : Rs k (R.next x f) (R.next y g) := by
  match x, y, h with
  | some (.bad e _), some (.bad e' _), h => exact h
  | some (.ok ts a), some (.ok us b), h => obtain ⟨rfl, rfl⟩ := h; exact hk _ _
  | none, none, _ => trivial
theorem textOf_shift (k : Nat) (ts : List Tok) : textOf (ts.map (Tok.shift k)) = textOf ts := by cases ts <;> rfl
theorem placeOf_shift (en k : Nat) (ts : List Tok) : placeOf (en + k) (ts.map (Tok.shift k)) = placeOf en ts + k := by cases ts <;> rfl
theorem tail_shift (k : Nat) (ts : List Tok) : (ts.map (Tok.shift k)).tail = ts.tail.map (Tok.shift k) := by cases ts <;> rfl
theorem must_rs (en k : Nat) (s : List UInt8) (ts : List Tok) : Rs k (must en s ts) (must (en + k) s (ts.map (Tok.shift k))) := by
  unfold must
  rw [textOf_shift, placeOf_shift, tail_shift]
  by_cases hs : textOf ts = s
  · rw [if_pos hs, if_pos hs]; exact ⟨rfl, rfl⟩
  · rw [if_neg hs, if_neg hs]; exact ⟨rfl, rfl⟩
theorem leaf_shift (k : Nat) (t : Tok) : leaf (t.shift k) = leaf t := rfl
theorem body_rs {en k : Nat} {X Y : Md → Nat → List Tok → Option (R Tr)} (h : ∀ m d ts, Rs k (X m d ts) (Y m d (ts.map (Tok.shift k)))) (m : Md) (d : Nat) (ts : List Tok) : Rs k (body en X m d ts) (body (en + k) Y m d (ts.map (Tok.shift k))) := by
  have ht := textOf_shift k ts
  have hp := placeOf_shift en k ts
  have hl := tail_shift k ts
  cases m with
  | whole =>
    simp only [body, ht, hp, hl]
    by_cases h1 : 20 < d
    · rw [if_pos h1, if_pos h1]; exact ⟨rfl, rfl⟩
    rw [if_neg h1, if_neg h1]
    by_cases h2 : textOf ts = [105, 102]
    · rw [if_pos h2, if_pos h2]
      exact next_rs (h _ _ _) fun t1 a => next_rs (must_rs en k _ t1) fun t2 _ => next_rs (h _ _ _) fun t3 _ => next_rs (must_rs en k _ t3) fun t4 _ => next_rs (h _ _ _) fun _ _ => ⟨rfl, rfl⟩
    · rw [if_neg h2, if_neg h2]; exact h _ _ _
  | chain n =>
    simp only [body]
    by_cases h1 : 3 ≤ n
    · rw [if_pos h1, if_pos h1]; exact h _ _ _
    · rw [if_neg h1, if_neg h1]
      exact next_rs (h _ _ _) fun _ _ => h _ _ _
  | more n a =>
    simp only [body, ht, hl]
    by_cases h1 : textOf ts ∈ level n
    · rw [if_pos h1, if_pos h1]
      refine next_rs (h _ _ _) fun _ _ => ?_
      by_cases h2 : n = 0
      · rw [if_pos h2, if_pos h2]; exact ⟨rfl, rfl⟩
      · rw [if_neg h2, if_neg h2]; exact h _ _ _
    · rw [if_neg h1, if_neg h1]; exact ⟨rfl, rfl⟩
  | factor =>
    simp only [body, ht, hp, hl]
    by_cases h1 : 20 < d
    · rw [if_pos h1, if_pos h1]; exact ⟨rfl, rfl⟩
    rw [if_neg h1, if_neg h1]
    by_cases h2 : textOf ts = [45]
    · rw [if_pos h2, if_pos h2]
      exact next_rs (h _ _ _) fun _ _ => ⟨rfl, rfl⟩
    rw [if_neg h2, if_neg h2]
    by_cases h3 : textOf ts = [40]
    · rw [if_pos h3, if_pos h3]
      exact next_rs (h _ _ _) fun t1 _ => next_rs (must_rs en k _ t1) fun _ _ => ⟨rfl, rfl⟩
    rw [if_neg h3, if_neg h3]
    by_cases h4 : textOf ts = [109, 105, 110] ∨ textOf ts = [109, 97, 120]
    · rw [if_pos h4, if_pos h4]
      exact next_rs (must_rs en k _ _) fun _ _ => next_rs (h _ _ _) fun t2 _ => next_rs (must_rs en k _ t2) fun _ _ => next_rs (h _ _ _) fun t4 _ => next_rs (must_rs en k _ t4) fun _ _ => ⟨rfl, rfl⟩
    rw [if_neg h4, if_neg h4]
    cases ts with
    | nil => exact ⟨rfl, rfl⟩
    | cons t r =>
      rw [List.map_cons]
      simp only []
      rw [leaf_shift]
      cases leaf t with
      | none => exact ⟨rfl, rfl⟩
      | some x => exact ⟨rfl, rfl⟩
theorem run_rs {en k : Nat} : ∀ (f : Nat) (m : Md) (d : Nat) (ts : List Tok), Rs k (run en f m d ts) (run (en + k) f m d (ts.map (Tok.shift k)))
  | 0, _, _, _ => trivial
  | f + 1, m, d, ts => body_rs (fun m d ts => run_rs f m d ts) m d ts
theorem ex_rs (en k : Nat) (m : Md) (d : Nat) (ts : List Tok) : Rs k (ex en m d ts) (ex (en + k) m d (ts.map (Tok.shift k))) := by
  unfold ex
  rw [List.length_map]
  exact run_rs _ m d ts
/-- Read behind more rules: the same, or there are too many. -/
def Rc (k c n : Nat) : Option (R (List Rl)) → Option (R (List Rl)) → Prop
  | some (.bad e p), some (.bad e' p') => e' = e ∧ p' = p + k ∨ e' = 9
  | some (.ok _ rs), some (.ok _ b) => rs = b ∧ (rs = [] ∨ c + n + rs.length ≤ 60)
  | some (.ok _ rs), some (.bad e _) => e = 9 ∧ 60 < c + n + rs.length
  | none, _ => True
  | _, _ => False
theorem next_rc {α : Type} {k c n : Nat} {x y : Option (R α)} {f g : List Tok → α → Option (R (List Rl))} (h : Rs k x y) (hk : ∀ ts a, x = some (.ok ts a) → Rc k c n (f ts a) (g (ts.map (Tok.shift k)) a)) : Rc k c n (R.next x f) (R.next y g) := by
  match x, y, h with
  | some (.bad e _), some (.bad e' _), h => exact .inl h
  | some (.ok ts a), some (.ok us b), h => obtain ⟨rfl, rfl⟩ := h; exact hk _ _ rfl
  | none, none, _ => trivial
theorem rules_rc (en k n : Nat) : ∀ (f c : Nat) (ts : List Tok), ts.length ≤ f → Rc k c n (rules en c ts) (rules (en + k) (c + n) (ts.map (Tok.shift k)))
  | _, c, [], _ => ⟨rfl, .inl rfl⟩
  | 0, _, _ :: _, h => by simp at h
  | f + 1, c, t :: ts, h => by
    rw [List.map_cons, rules_cons, rules_cons]
    have ht : textOf (t.shift k :: ts.map (Tok.shift k)) = textOf (t :: ts) := rfl
    rw [ht]
    by_cases h1 : textOf (t :: ts) ∉ kinds
    · rw [if_pos h1, if_pos h1]; exact .inl ⟨rfl, rfl⟩
    rw [if_neg h1, if_neg h1]
    by_cases h2 : 59 < c
    · rw [if_pos h2, if_pos (by omega)]; exact .inl ⟨rfl, rfl⟩
    rw [if_neg h2]
    by_cases h2' : 59 < c + n
    · rw [if_pos h2']
      -- whatever the rules are, there are too many
      cases ts with
      | nil => exact .inr rfl
      | cons m r =>
        simp only []
        by_cases h3 : m.kind ≠ 1 ∨ m.text ∈ takenL
        · rw [if_pos h3]; exact .inr rfl
        rw [if_neg h3]
        obtain ⟨x1, e1, g1⟩ := must_good (en := en) (s := [61]) (List.cons_ne_nil _ _) r
        rw [e1]
        cases x1 with
        | bad e p => exact .inr rfl
        | ok t1 u =>
          obtain ⟨x2, e2, g2⟩ := ex_good en .whole 1 t1
          simp only [R.next]
          rw [e2]
          cases x2 with
          | bad e p => exact .inr rfl
          | ok t2 x =>
            simp only []
            obtain ⟨x3, e3, g3⟩ := must_good (en := en) (s := [59]) (List.cons_ne_nil _ _) t2
            rw [e3]
            cases x3 with
            | bad e p => exact .inr rfl
            | ok t3 v =>
              simp only []
              have l1 := g1 _ _ rfl
              have l2 : t2.length + 1 ≤ t1.length := g2 _ _ rfl
              have l3 := g3 _ _ rfl
              simp only [List.length_cons] at h
              have ih := rules_rc en k n f (c + 1) t3 (by omega)
              generalize rules en (c + 1) t3 = z at ih
              generalize rules (en + k) (c + 1 + n) (t3.map (Tok.shift k)) = z' at ih
              match z, z', ih with
              | some (.bad _ _), _, _ => exact .inr rfl
              | some (.ok _ rs), _, _ => exact ⟨rfl, by rw [List.length_cons]; omega⟩
              | none, _, _ => trivial
    rw [if_neg h2']
    cases ts with
    | nil => exact .inl ⟨rfl, rfl⟩
    | cons m r =>
      rw [List.map_cons]
      simp only []
      have hm : (m.shift k).kind = m.kind := rfl
      have hm2 : (m.shift k).text = m.text := rfl
      rw [hm, hm2]
      by_cases h3 : m.kind ≠ 1 ∨ m.text ∈ takenL
      · rw [if_pos h3, if_pos h3]; exact .inl ⟨rfl, rfl⟩
      rw [if_neg h3, if_neg h3]
      simp only [List.length_cons] at h
      refine next_rc (must_rs en k _ _) fun t1 u e1 => next_rc (ex_rs en k _ _ _) fun t2 x e2 => next_rc (must_rs en k _ _) fun t3 v e3 => ?_
      have l1 : t1.length + 1 ≤ r.length := by
        obtain ⟨y, hy, hy2⟩ := must_good (en := en) (s := [61]) (List.cons_ne_nil _ _) r
        rw [e1] at hy; cases hy; exact hy2 _ _ rfl
      have l2 : t2.length + 1 ≤ t1.length := by
        obtain ⟨y, hy, hy2⟩ := ex_good en .whole 1 t1
        rw [e2] at hy; cases hy; exact hy2 _ _ rfl
      have l3 : t3.length + 1 ≤ t2.length := by
        obtain ⟨y, hy, hy2⟩ := must_good (en := en) (s := [59]) (List.cons_ne_nil _ _) t2
        rw [e3] at hy; cases hy; exact hy2 _ _ rfl
      have ih := rules_rc en k n f (c + 1) t3 (by omega)
      rw [show c + n + 1 = c + 1 + n by omega]
      generalize rules en (c + 1) t3 = z at ih
      generalize rules (en + k) (c + 1 + n) (t3.map (Tok.shift k)) = z' at ih
      match z, z', ih with
      | some (.bad _ _), some (.bad _ _), ih => exact ih
      | some (.ok _ rs), some (.ok _ rs'), ih =>
        obtain ⟨rfl, ih⟩ := ih
        refine ⟨rfl, .inr ?_⟩
        rw [List.length_cons]
        rcases ih with rfl | ih
        · show c + n + (0 + 1) ≤ 60; omega
        · omega
      | some (.ok _ rs), some (.bad _ _), ih => exact ⟨ih.1, by have h2 := ih.2; rw [List.length_cons]; omega⟩
      | none, _, _ => trivial
/-- An error is one of two. -/
def Er {α : Type} (x : Option (R α)) : Prop := ∀ e p, x = some (.bad e p) → e = 2 ∨ e = 9
theorem Er.next {α β : Type} {x : Option (R α)} {k : List Tok → α → Option (R β)} (h : Er x) (hk : ∀ t a, Er (k t a)) : Er (R.next x k) := by
  intro e p h2
  match x, h, h2 with
  | some (.bad e' p'), h, h2 => cases h2; exact h _ _ rfl
  | some (.ok t a), h, h2 => exact hk t a e p h2
theorem Er.ok {α : Type} {ts : List Tok} {a : α} : Er (some (.ok ts a)) := fun _ _ h => by cases h
theorem er_two {α : Type} {p : Nat} : Er (some (.bad (α := α) 2 p)) := fun _ _ h => by cases h; exact .inl rfl
theorem er_nine {α : Type} {p : Nat} : Er (some (.bad (α := α) 9 p)) := fun _ _ h => by cases h; exact .inr rfl
theorem must_er (en : Nat) (s : List UInt8) (ts : List Tok) : Er (must en s ts) := by
  unfold must
  by_cases h : textOf ts = s
  · rw [if_pos h]; exact .ok
  · rw [if_neg h]; exact er_two
theorem body_er {en : Nat} {X : Md → Nat → List Tok → Option (R Tr)} (h : ∀ m d ts, Er (X m d ts)) (m : Md) (d : Nat) (ts : List Tok) : Er (body en X m d ts) := by
  cases m with
  | whole =>
    simp only [body]
    by_cases h1 : 20 < d
    · rw [if_pos h1]; exact er_nine
    rw [if_neg h1]
    by_cases h2 : textOf ts = [105, 102]
    · rw [if_pos h2]
      exact (h _ _ _).next fun t1 a => (must_er _ _ _).next fun t2 _ => (h _ _ _).next fun t3 b => (must_er _ _ _).next fun t4 _ => (h _ _ _).next fun t5 c => .ok
    · rw [if_neg h2]; exact h _ _ _
  | chain n =>
    simp only [body]
    by_cases h1 : 3 ≤ n
    · rw [if_pos h1]; exact h _ _ _
    · rw [if_neg h1]; exact (h _ _ _).next fun t1 a => h _ _ _
  | more n a =>
    simp only [body]
    by_cases h1 : textOf ts ∈ level n
    · rw [if_pos h1]
      refine (h _ _ _).next fun t1 b => ?_
      by_cases h2 : n = 0
      · rw [if_pos h2]; exact .ok
      · rw [if_neg h2]; exact h _ _ _
    · rw [if_neg h1]; exact .ok
  | factor =>
    simp only [body]
    by_cases h1 : 20 < d
    · rw [if_pos h1]; exact er_nine
    rw [if_neg h1]
    by_cases h2 : textOf ts = [45]
    · rw [if_pos h2]; exact (h _ _ _).next fun t1 a => .ok
    rw [if_neg h2]
    by_cases h3 : textOf ts = [40]
    · rw [if_pos h3]; exact (h _ _ _).next fun t1 a => (must_er _ _ _).next fun t2 _ => .ok
    rw [if_neg h3]
    by_cases h4 : textOf ts = [109, 105, 110] ∨ textOf ts = [109, 97, 120]
    · rw [if_pos h4]
      exact (must_er _ _ _).next fun t1 _ => (h _ _ _).next fun t2 a => (must_er _ _ _).next fun t3 _ => (h _ _ _).next fun t4 b => (must_er _ _ _).next fun t5 _ => .ok
    rw [if_neg h4]
    cases ts with
    | nil => exact er_two
    | cons t r =>
      simp only []
      cases leaf t with
      | none => exact er_two
      | some x => exact .ok
theorem run_er (en : Nat) : ∀ (f : Nat) (m : Md) (d : Nat) (ts : List Tok), Er (run en f m d ts)
  | 0, _, _, _ => fun _ _ h => by cases h
  | f + 1, m, d, ts => body_er (fun m d ts => run_er en f m d ts) m d ts
theorem rulesF_er (en : Nat) : ∀ (f c : Nat) (ts : List Tok), Er (rulesF en f c ts)
  | f, c, [] => by cases f <;> exact .ok
  | 0, c, t :: ts => fun _ _ h => by cases h
  | f + 1, c, t :: ts => by
    simp only [rulesF]
    by_cases h1 : textOf (t :: ts) ∉ kinds
    · rw [if_pos h1]; exact er_two
    rw [if_neg h1]
    by_cases h2 : 59 < c
    · rw [if_pos h2]; exact er_nine
    rw [if_neg h2]
    cases ts with
    | nil => exact er_two
    | cons m r =>
      simp only []
      by_cases h3 : m.kind ≠ 1 ∨ m.text ∈ takenL
      · rw [if_pos h3]; exact er_two
      rw [if_neg h3]
      exact (must_er _ _ _).next fun t1 _ => (show Er (ex en .whole 1 t1) from run_er en _ _ _ _).next fun t2 x => (must_er _ _ _).next fun t3 _ => (rulesF_er en f (c + 1) t3).next fun t4 rs => .ok
theorem parse_er (s : List UInt8) : Er (parse s) := by
  unfold parse
  obtain ⟨r, hr⟩ : ∃ r, PLex.all PLex.kindOf 0 s = r := ⟨_, rfl⟩
  obtain ⟨q, ts⟩ := r
  rw [hr]
  cases q with
  | some q => exact er_two
  | none => exact rulesF_er _ _ _ _
theorem shift_zero (ts : List Tok) : ts.map (Tok.shift 0) = ts := by
  have : Tok.shift 0 = id := by funext t; cases t; rfl
  rw [this, List.map_id]
theorem rules_few60 {en : Nat} {ts l : List Tok} {rs : List Rl} (h : rules en 0 ts = some (.ok l rs)) : rs.length ≤ 60 := by
  have hr := rules_rc en 0 0 ts.length 0 ts (Nat.le_refl _)
  rw [shift_zero, Nat.add_zero, Nat.add_zero, h] at hr
  obtain ⟨-, hr⟩ := hr
  rcases hr with rfl | hr
  · exact Nat.zero_le _
  · omega
theorem parse_few60 {s : List UInt8} {l : List Tok} {rs : List Rl} (h : parse s = some (.ok l rs)) : rs.length ≤ 60 := by
  unfold parse at h
  obtain ⟨r, hr⟩ : ∃ r, PLex.all PLex.kindOf 0 s = r := ⟨_, rfl⟩
  obtain ⟨q, ts⟩ := r
  rw [hr] at h
  cases q with
  | some q => cases h
  | none => exact rules_few60 h
/-- Two texts of rules, a byte 10 between. -/
theorem parse_join {s t : List UInt8} {l1 : List Tok} {rs1 : List Rl} (h : parse s = some (.ok l1 rs1)) :
    (∀ l2 rs2, parse t = some (.ok l2 rs2) → (rs1.length + rs2.length ≤ 60 → ∃ l3, parse (s ++ 10 :: t) = some (.ok l3 (rs1 ++ rs2))) ∧ (60 < rs1.length + rs2.length → ∃ p, parse (s ++ 10 :: t) = some (.bad 9 p))) ∧
    (∀ e p, parse t = some (.bad e p) → ∃ e' p', parse (s ++ 10 :: t) = some (.bad e' p') ∧ (e' = e ∧ p' = p + s.length + 1 ∨ e' = 9)) := by
  have hf := parse_few60 h
  unfold parse at h
  obtain ⟨r, hr⟩ : ∃ r, PLex.all PLex.kindOf 0 s = r := ⟨_, rfl⟩
  obtain ⟨q, ts⟩ := r
  rw [hr] at h
  cases q with
  | some q => cases h
  | none =>
    have h : rules s.length 0 ts = some (.ok l1 rs1) := h
    have hj := PLex.all_join PLex.kindOf s.length 0 s t (Nat.le_refl _)
    rw [hr] at hj
    simp only [] at hj
    have hs := PLex.all_shift PLex.kindOf t.length 0 (s.length + 1) t (Nat.le_refl _)
    rw [show 0 + s.length + 1 = 0 + (s.length + 1) by omega, hs] at hj
    obtain ⟨r, hr2⟩ : ∃ r, PLex.all PLex.kindOf 0 t = r := ⟨_, rfl⟩
    obtain ⟨q2, us⟩ := r
    rw [hr2] at hj
    cases q2 with
    | some q2 =>
      have hp : parse t = some (.bad 2 q2) := by unfold parse; rw [hr2]
      have hb : parse (s ++ 10 :: t) = some (.bad 2 (q2 + (s.length + 1))) := by unfold parse; rw [hj]; rfl
      refine ⟨fun l2 rs2 k => (by rw [hp] at k; cases k), fun e p k => ?_⟩
      rw [hp] at k; cases k
      exact ⟨_, _, hb, .inl ⟨rfl, by omega⟩⟩
    | none =>
      have hp : parse t = rules t.length 0 us := by unfold parse; rw [hr2]
      have hb : parse (s ++ 10 :: t) = rules (t.length + (s.length + 1)) 0 (ts ++ us.map (Tok.shift (s.length + 1))) := by
        unfold parse; rw [hj]
        simp only [Option.map_none, List.length_append, List.length_cons]
        rw [show s.length + (t.length + 1) = t.length + (s.length + 1) by omega]
      have hm := (rules_more (en := s.length) (en' := t.length + (s.length + 1)) (us.map (Tok.shift (s.length + 1))) ts.length 0 ts l1 rs1 (Nat.le_refl _) h).2
      rw [Nat.zero_add] at hm
      have hc := rules_rc t.length (s.length + 1) rs1.length us.length 0 us (Nat.le_refl _)
      rw [Nat.zero_add] at hc
      rw [hb, hm, hp]
      generalize rules t.length 0 us = x at hc
      generalize rules (t.length + (s.length + 1)) rs1.length (us.map (Tok.shift (s.length + 1))) = y at hc
      match x, y, hc with
      | some (.bad e p), some (.bad e' p'), hc =>
        refine ⟨fun l2 rs2 k => (by cases k), fun e1 p1 k => ?_⟩
        cases k
        refine ⟨e', p', rfl, ?_⟩
        rcases hc with ⟨h1, h2⟩ | h1
        · exact .inl ⟨h1, by omega⟩
        · exact .inr h1
      | some (.ok l2 rs), some (.ok l3 b), hc =>
        obtain ⟨rfl, hc⟩ := hc
        refine ⟨fun l2' rs2 k => ?_, fun e1 p1 k => by cases k⟩
        cases k
        refine ⟨fun _ => ⟨_, rfl⟩, fun hgt => ?_⟩
        rcases hc with rfl | hc
        · simp only [List.length_nil] at hgt; omega
        · omega
      | some (.ok l2 rs), some (.bad e p), hc =>
        have hc2 := hc.2
        obtain rfl : e = 9 := hc.1
        refine ⟨fun l2' rs2 k => ?_, fun e1 p1 k => by cases k⟩
        cases k
        exact ⟨fun hle => by omega, fun _ => ⟨p, rfl⟩⟩
      | none, _, _ => exact ⟨fun _ _ k => (by cases k), fun _ _ k => (by cases k)⟩
end PTree
