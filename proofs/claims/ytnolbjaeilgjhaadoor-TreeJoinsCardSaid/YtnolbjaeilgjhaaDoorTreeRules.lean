/-
  Rule sets: rules one behind the other; the program of a text. Plain facts; no program is named here.
-/
import Derived.Test.YtnolbjaeilgjhaaDoorTreeMath
namespace PTree
open PLex (Tok)

structure Rl where
  kind : List UInt8
  name : List UInt8
  tree : Tr
deriving DecidableEq
def rulesF (en : Nat) : Nat → Nat → List Tok → Option (R (List Rl))
  | _, _, [] => some (.ok [] [])
  | 0, _, _ :: _ => none
  | f + 1, c, t :: ts =>
    if textOf (t :: ts) ∉ kinds then some (.bad 2 t.at_)
    else if 59 < c then some (.bad 9 t.at_)
    else match ts with
      | [] => some (.bad 2 en)
      | n :: r =>
        if n.kind ≠ 1 ∨ n.text ∈ takenL then some (.bad 2 n.at_)
        else R.next (must en [61] r) fun t1 _ => R.next (ex en .whole 1 t1) fun t2 x => R.next (must en [59] t2) fun t3 _ =>
          R.next (rulesF en f (c + 1) t3) fun t4 rs => some (.ok t4 (⟨textOf (t :: ts), n.text, x⟩ :: rs))
theorem rulesF_more (en : Nat) : ∀ (f g c : Nat) (ts : List Tok), ts.length ≤ f → ts.length ≤ g → rulesF en f c ts = rulesF en g c ts
  | f, g, c, [], _, _ => by cases f <;> cases g <;> rfl
  | 0, _, _, _ :: _, h, _ => by simp at h
  | _, 0, _, _ :: _, _, h => by simp at h
  | f + 1, g + 1, c, t :: ts, hf, hg => by
    simp only [List.length_cons] at hf hg
    simp only [rulesF]
    by_cases h1 : textOf (t :: ts) ∉ kinds
    · rw [if_pos h1, if_pos h1]
    rw [if_neg h1, if_neg h1]
    by_cases h2 : 59 < c
    · rw [if_pos h2, if_pos h2]
    rw [if_neg h2, if_neg h2]
    cases ts with
    | nil => rfl
    | cons n r =>
      simp only []
      by_cases h3 : n.kind ≠ 1 ∨ n.text ∈ takenL
      · rw [if_pos h3, if_pos h3]
      rw [if_neg h3, if_neg h3]
      obtain ⟨x1, e1, g1⟩ := must_good (en := en) (s := [61]) (List.cons_ne_nil _ _) r
      rw [e1]
      cases x1 with
      | bad e p => rfl
      | ok t1 a =>
        have l1 := g1 _ _ rfl
        obtain ⟨x2, e2, g2⟩ := ex_good en .whole 1 t1
        simp only [R.next]
        rw [e2]
        cases x2 with
        | bad e p => rfl
        | ok t2 x =>
          have l2 := g2 _ _ rfl
          simp only []
          obtain ⟨x3, e3, g3⟩ := must_good (en := en) (s := [59]) (List.cons_ne_nil _ _) t2
          rw [e3]
          cases x3 with
          | bad e p => rfl
          | ok t3 a3 =>
            have l3 := g3 _ _ rfl
            simp only []
            simp only [List.length_cons] at hf hg
            rw [rulesF_more en f g (c + 1) t3 (by omega) (by omega)]
/-- The rules that tokens are read to, behind c rules. -/
def rules (en c : Nat) (ts : List Tok) : Option (R (List Rl)) := rulesF en ts.length c ts
theorem rules_nil (en c : Nat) : rules en c [] = some (.ok [] []) := rfl
theorem rules_cons (en c : Nat) (t : Tok) (ts : List Tok) : rules en c (t :: ts) =
    if textOf (t :: ts) ∉ kinds then some (.bad 2 t.at_)
    else if 59 < c then some (.bad 9 t.at_)
    else match ts with
      | [] => some (.bad 2 en)
      | n :: r =>
        if n.kind ≠ 1 ∨ n.text ∈ takenL then some (.bad 2 n.at_)
        else R.next (must en [61] r) fun t1 _ => R.next (ex en .whole 1 t1) fun t2 x => R.next (must en [59] t2) fun t3 _ =>
          R.next (rules en (c + 1) t3) fun t4 rs => some (.ok t4 (⟨textOf (t :: ts), n.text, x⟩ :: rs)) := by
  unfold rules
  rw [List.length_cons]
  simp only [rulesF]
  by_cases h1 : textOf (t :: ts) ∉ kinds
  · rw [if_pos h1, if_pos h1]
  rw [if_neg h1, if_neg h1]
  by_cases h2 : 59 < c
  · rw [if_pos h2, if_pos h2]
  rw [if_neg h2, if_neg h2]
  cases ts with
  | nil => rfl
  | cons n r =>
    simp only []
    by_cases h3 : n.kind ≠ 1 ∨ n.text ∈ takenL
    · rw [if_pos h3, if_pos h3]
    rw [if_neg h3, if_neg h3]
    obtain ⟨x1, e1, g1⟩ := must_good (en := en) (s := [61]) (List.cons_ne_nil _ _) r
    rw [e1]
    cases x1 with
    | bad e p => rfl
    | ok t1 a =>
      have l1 := g1 _ _ rfl
      obtain ⟨x2, e2, g2⟩ := ex_good en .whole 1 t1
      simp only [R.next]
      rw [e2]
      cases x2 with
      | bad e p => rfl
      | ok t2 x =>
        have l2 := g2 _ _ rfl
        simp only []
        obtain ⟨x3, e3, g3⟩ := must_good (en := en) (s := [59]) (List.cons_ne_nil _ _) t2
        rw [e3]
        cases x3 with
        | bad e p => rfl
        | ok t3 a3 =>
          have l3 := g3 _ _ rfl
          have k2 : t2.length + 1 ≤ t1.length := l2
          simp only []
          rw [rulesF_more en _ t3.length (c + 1) t3 (by rw [List.length_cons]; omega) (Nat.le_refl _)]
/-- The rows of a program's rules: kind, name, root. -/
structure Row where
  kind : List UInt8
  name : List UInt8
  root : Nat
deriving DecidableEq
def exprsOf : Nat → List Rl → List Ex
  | _, [] => []
  | o, r :: rs => r.tree.flat o ++ exprsOf (o + r.tree.size) rs
def rowsOf : Nat → List Rl → List Row
  | _, [] => []
  | o, r :: rs => ⟨r.kind, r.name, o + r.tree.size - 1⟩ :: rowsOf (o + r.tree.size) rs
def sizeOf (rs : List Rl) : Nat := (rs.map (fun r => r.tree.size)).sum
theorem exprsOf_len : ∀ (o : Nat) (rs : List Rl), (exprsOf o rs).length = sizeOf rs
  | _, [] => rfl
  | o, r :: rs => by simp only [exprsOf, List.length_append, Tr.flat_len, exprsOf_len, sizeOf, List.map_cons, List.sum_cons]
theorem rowsOf_len : ∀ (o : Nat) (rs : List Rl), (rowsOf o rs).length = rs.length
  | _, [] => rfl
  | o, r :: rs => by simp only [rowsOf, List.length_cons, rowsOf_len]
theorem exprsOf_append : ∀ (o : Nat) (rs0 rs1 : List Rl), exprsOf o (rs0 ++ rs1) = exprsOf o rs0 ++ exprsOf (o + sizeOf rs0) rs1
  | _, [], _ => by simp [exprsOf, sizeOf]
  | o, r :: rs0, rs1 => by
    simp only [List.cons_append, exprsOf, exprsOf_append, List.append_assoc, sizeOf, List.map_cons, List.sum_cons]
    rw [Nat.add_assoc]
theorem rowsOf_append : ∀ (o : Nat) (rs0 rs1 : List Rl), rowsOf o (rs0 ++ rs1) = rowsOf o rs0 ++ rowsOf (o + sizeOf rs0) rs1
  | _, [], _ => by simp [rowsOf, sizeOf]
  | o, r :: rs0, rs1 => by
    simp only [List.cons_append, rowsOf, rowsOf_append, sizeOf, List.map_cons, List.sum_cons]
    rw [Nat.add_assoc]
/-- What a text is read to: rules, or an error and its place. -/
def parse (l : List UInt8) : Option (R (List Rl)) := match PLex.all PLex.kindOf 0 l with
  | (some q, _) => some (.bad 2 q)
  | (none, ts) => rules l.length 0 ts
/-- Rules, behind those that are read. -/
def toldR (en : Nat) (r : Option (R (List Rl))) (rs0 : List Rl) (ts : List Tok) : Prop := r = R.next (rules en rs0.length ts) fun t rs => some (.ok t (rs0 ++ rs))
theorem toldR_first (en : Nat) (ts : List Tok) : toldR en (rules en 0 ts) [] ts := by
  unfold toldR
  simp only [List.length_nil, List.nil_append]
  cases rules en 0 ts with
  | none => rfl
  | some r => cases r <;> rfl
theorem toldR_bad {en e p : Nat} {r : Option (R (List Rl))} {rs0 : List Rl} {ts : List Tok} (h : toldR en r rs0 ts) (hb : rules en rs0.length ts = some (.bad e p)) : r = some (.bad e p) := by
  unfold toldR at h; rw [h, hb]; rfl
theorem toldR_last {en : Nat} {r : Option (R (List Rl))} {rs0 : List Rl} (h : toldR en r rs0 []) : r = some (.ok [] rs0) := by
  unfold toldR at h; rw [h, rules_nil]; simp [R.next]
theorem toldR_next {en : Nat} {r : Option (R (List Rl))} {rs0 : List Rl} {t n : Tok} {rest t1 t2 t3 : List Tok} {x : Tr} {u v : Unit} (h : toldR en r rs0 (t :: n :: rest))
    (h1 : textOf (t :: n :: rest) ∈ kinds) (h2 : rs0.length ≤ 59) (h3 : n.kind = 1) (h4 : n.text ∉ takenL) (e1 : must en [61] rest = some (.ok t1 u)) (e2 : ex en .whole 1 t1 = some (.ok t2 x)) (e3 : must en [59] t2 = some (.ok t3 v)) :
    toldR en r (rs0 ++ [⟨textOf (t :: n :: rest), n.text, x⟩]) t3 := by
  unfold toldR at h ⊢
  rw [h, rules_cons, if_neg (fun k => k h1), if_neg (by omega)]
  simp only []
  rw [if_neg (fun k => k.elim (fun k => k h3) h4), e1]
  simp only [R.next]
  rw [e2]
  simp only []
  rw [e3]
  simp only []
  rw [List.length_append, List.length_singleton]
  cases rules en (rs0.length + 1) t3 with
  | none => rfl
  | some r => cases r <;> simp
end PTree
