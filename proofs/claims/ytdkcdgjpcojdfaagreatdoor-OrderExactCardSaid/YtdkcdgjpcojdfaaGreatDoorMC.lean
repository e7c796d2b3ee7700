/-
  The kind of an expression: which ones it is made of, and their kinds, from the first one on. Plain facts; no program is named here.
  The kind of a place by those of its parts; what a root is made of; when there is a kind. Plain facts; no program is named here.
  When there is a kind, and which; where there is none; what turns it and what not. Plain facts; no program is named here.
  The kinds of a few rows that are put behind: a name, a sign, a choice. Plain facts; no program is named here.
-/
import Derived.Test.YtdkcdgjpcojdfaaGreatDoorBase

namespace PCheck

structure Xp where
  op : List UInt8
  name : List UInt8
  value : Int
  a : Int
  b : Int
  c : Int
deriving DecidableEq
structure Bd where
  name : List UInt8
  kind : Int
deriving DecidableEq
def wholeS : List UInt8 := [119, 104, 111, 108, 101]
def amountS : List UInt8 := [97, 109, 111, 117, 110, 116]
def rateS : List UInt8 := [114, 97, 116, 101]
def nameS : List UInt8 := [110, 97, 109, 101]
def negS : List UInt8 := [110, 101, 103]
def ifS : List UInt8 := [105, 102]
def parts (x : Xp) : List Int :=
  if x.op = wholeS ∨ x.op = amountS ∨ x.op = rateS ∨ x.op = nameS then []
  else if x.op = negS then [x.a]
  else if x.op = ifS then [x.a, x.b, x.c]
  else [x.a, x.b]
def mark (i : Nat) : List Int → List Bool → Option (List Bool)
  | [], m => some m
  | p :: l, m => if p < 0 ∨ (i : Int) ≤ p then none else mark i l (m.set p.toNat true)
def madeF (E : List Xp) : Nat → List Bool → Option (List Bool)
  | 0, m => some m
  | i + 1, m => match E[i]? with
    | none => none
    | some x => if m[i]? = some true then match mark i (parts x) m with
        | none => none
        | some m' => madeF E i m'
      else madeF E i m
def made (E : List Xp) (r : Nat) : Option (List Bool) := madeF E (r + 1) ((List.replicate (r + 1) false).set r true)
def oneOf (k : Int) (l : List Int) : Int := if k ∈ l then k else 0
def common (a b : Int) : Int := if a = b then a else 0
def product (a b : Int) : Int := if a = 3 ∧ b = 3 then 3 else if a = 1 ∧ (b = 3 ∨ b = 2) then 1 else if b = 1 ∧ (a = 3 ∨ a = 2) then 1 else 0
def flag (k : Int) : Int := if k = 0 then 0 else 4
def kindBy (op : List UInt8) (a b c : Int) : Int :=
  if op = wholeS then 3 else if op = amountS then 1 else if op = rateS then 2
  else if op = negS then oneOf a [1, 3]
  else if op = [43] ∨ op = [45] then oneOf (common a b) [1, 3]
  else if op = [42] then product a b
  else if op = [60] ∨ op = [60, 61] ∨ op = [62] ∨ op = [62, 61] then flag (oneOf (common a b) [1, 2, 3])
  else if op = [61] ∨ op = [60, 62] then flag (common a b)
  else if op = [109, 105, 110] ∨ op = [109, 97, 120] then oneOf (common a b) [1, 2, 3]
  else if op = ifS then (if a = 4 then common b c else 0)
  else 0
def bound (l : List Bd) (n : List UInt8) : Option Int := match l with
  | [] => none
  | b :: l => if b.name = n then some (oneOf b.kind [1, 2, 3, 4]) else bound l n
def at0 (ks : List Int) (p : List Int) (n : Nat) : Int := match p[n]? with
  | none => 0
  | some q => ks.getD q.toNat 0
def kindOf (l : List Bd) (x : Xp) (ks : List Int) : Int × Nat :=
  if x.op = nameS then match bound l x.name with
    | none => (0, 5)
    | some k => if k = 0 then (0, 7) else (k, 0)
  else
    let k := kindBy x.op (at0 ks (parts x) 0) (at0 ks (parts x) 1) (at0 ks (parts x) 2)
    if k = 0 then (0, 7) else (k, 0)
def kindsF (l : List Bd) (E : List Xp) (m : List Bool) : Nat → Nat → List Int → Nat × Nat × List Int
  | 0, _, ks => (0, 0, ks)
  | f + 1, i, ks => match E[i]? with
    | none => (0, 0, ks)
    | some x => if m[i]? = some true then
        (if (kindOf l x ks).2 = 0 then kindsF l E m f (i + 1) (ks.set i (kindOf l x ks).1) else ((kindOf l x ks).2, i, ks))
      else kindsF l E m f (i + 1) ks
def told (r : Nat) : Nat × Nat × List Int → Int × Nat × Nat
  | (0, _, ks) => (ks.getD r 0, 0, 0)
  | (e + 1, i, _) => (0, i, e + 1)
def kind (E : List Xp) (r : Int) (l : List Bd) : Int × Nat × Nat :=
  if r < 0 ∨ (E.length : Int) ≤ r then (0, 0, 1)
  else match made E r.toNat with
    | none => (0, 0, 1)
    | some m => told r.toNat (kindsF l E m (r.toNat + 1) 0 (List.replicate (r.toNat + 1) 0))
end PCheck

namespace PCheck
variable {E : List Xp} {l : List Bd} {r : Nat}

def Fine (i : Nat) (x : Xp) : Prop := ∀ p ∈ parts x, 0 ≤ p ∧ p < (i : Int)
instance (i : Nat) (x : Xp) : Decidable (Fine i x) := inferInstanceAs (Decidable (∀ p ∈ parts x, 0 ≤ p ∧ p < (i : Int)))
def stepK (E : List Xp) (l : List Bd) (ks : List Int) (n : Nat) : Int := match E[n]? with
  | none => 0
  | some x => if Fine n x then (kindOf l x ks).1 else 0
def KL (E : List Xp) (l : List Bd) : Nat → List Int
  | 0 => []
  | n + 1 => KL E l n ++ [stepK E l (KL E l n) n]
def K (E : List Xp) (l : List Bd) (i : Nat) : Int := stepK E l (KL E l i) i
inductive Reach (E : List Xp) (r : Nat) : Nat → Prop
  | root : Reach E r r
  | part {i : Nat} {x : Xp} {p : Int} (h : Reach E r i) (hx : E[i]? = some x) (hp : p ∈ parts x) : Reach E r p.toNat
def Good (E : List Xp) (r : Nat) : Prop := ∀ i, Reach E r i → ∃ x, E[i]? = some x ∧ Fine i x
theorem mark_spec {i : Nat} : ∀ (ps : List Int) (m : List Bool), i ≤ m.length → match mark i ps m with
    | none => ∃ p ∈ ps, ¬ (0 ≤ p ∧ p < (i : Int))
    | some m' => (∀ p ∈ ps, 0 ≤ p ∧ p < (i : Int)) ∧ m'.length = m.length ∧ ∀ j, m'[j]? = some true ↔ m[j]? = some true ∨ ∃ p ∈ ps, p.toNat = j
  | [], m, _ => ⟨fun p hp => (by cases hp), rfl, fun j => by simp⟩
  | p :: ps, m, hm => by
    unfold mark
    by_cases h : p < 0 ∨ (i : Int) ≤ p
    · rw [if_pos h]; exact ⟨p, List.mem_cons_self .., by omega⟩
    · rw [if_neg h]
      have ih := mark_spec ps (m.set p.toNat true) (by rw [List.length_set]; exact hm)
      cases hk : mark i ps (m.set p.toNat true) with
      | none =>
        rw [hk] at ih
        obtain ⟨q, hq, h2⟩ := ih
        exact ⟨q, List.mem_cons_of_mem _ hq, h2⟩
      | some m' =>
        rw [hk] at ih
        obtain ⟨h1, h2, h3⟩ := ih
        refine ⟨fun q hq => ?_, by rw [h2, List.length_set], fun j => ?_⟩
        · rcases List.mem_cons.1 hq with rfl | hq
          · omega
          · exact h1 q hq
        · rw [h3 j]
          by_cases hj : p.toNat = j
          · subst hj
            have hl : p.toNat < m.length := by omega
            simp [hl]
          · rw [List.getElem?_set_ne hj]
            constructor
            · rintro (h4 | ⟨q, hq, h4⟩)
              · exact .inl h4
              · exact .inr ⟨q, List.mem_cons_of_mem _ hq, h4⟩
            · rintro (h4 | ⟨q, hq, h4⟩)
              · exact .inl h4
              · rcases List.mem_cons.1 hq with rfl | hq
                · exact absurd h4 hj
                · exact .inr ⟨q, hq, h4⟩
theorem madeF_spec (hr : r < E.length) : ∀ (i : Nat) (m : List Bool), i ≤ r + 1 → m.length = r + 1 → m[r]? = some true → (∀ j, m[j]? = some true → Reach E r j) → (∀ j x, i ≤ j → m[j]? = some true → E[j]? = some x → Fine j x ∧ ∀ p ∈ parts x, m[p.toNat]? = some true) →
    match madeF E i m with
    | none => ¬ Good E r
    | some m' => m'.length = r + 1 ∧ (∀ j, m'[j]? = some true ↔ Reach E r j) ∧ Good E r
  | 0, m, _, hl, hm, h1, h2 => by
    have hall : ∀ j, Reach E r j → m[j]? = some true := by
      intro j hj
      induction hj with
      | root => exact hm
      | part _ hx hp ih => exact (h2 _ _ (Nat.zero_le _) ih hx).2 _ hp
    refine ⟨hl, fun j => ⟨h1 j, hall j⟩, fun j hj => ?_⟩
    have hmj := hall j hj
    have hjl : j < m.length := (List.getElem?_eq_some_iff.1 hmj).1
    have hje : j < E.length := by omega
    exact ⟨E[j], List.getElem?_eq_getElem hje, (h2 j _ (Nat.zero_le _) hmj (List.getElem?_eq_getElem hje)).1⟩
  | i + 1, m, hi, hl, hm, h1, h2 => by
    have hie : i < E.length := by omega
    have hx := List.getElem?_eq_getElem hie
    unfold madeF
    rw [hx]
    simp only []
    by_cases hmi : m[i]? = some true
    · rw [if_pos hmi]
      have hs := mark_spec (i := i) (parts E[i]) m (by omega)
      cases hk : mark i (parts E[i]) m with
      | none =>
        rw [hk] at hs
        obtain ⟨p, hp, hb⟩ := hs
        intro hg
        obtain ⟨x, hx', hf⟩ := hg i (h1 i hmi)
        rw [hx] at hx'; cases hx'
        exact hb (hf p hp)
      | some m' =>
        rw [hk] at hs
        obtain ⟨g1, g2, g3⟩ := hs
        refine madeF_spec hr i m' (by omega) (by omega) ((g3 r).2 (.inl hm)) (fun j hj => ?_) (fun j x hij hj hxj => ?_)
        · rcases (g3 j).1 hj with h | ⟨p, hp, rfl⟩
          · exact h1 j h
          · exact .part (h1 i hmi) hx hp
        · by_cases hji : j = i
          · subst hji
            rw [hx] at hxj; cases hxj
            exact ⟨g1, fun p hp => (g3 _).2 (.inr ⟨p, hp, rfl⟩)⟩
          · have hmj : m[j]? = some true := by
              rcases (g3 j).1 hj with h | ⟨p, hp, e⟩
              · exact h
              · have := g1 p hp; omega
            obtain ⟨k1, k2⟩ := h2 j x (by omega) hmj hxj
            exact ⟨k1, fun p hp => (g3 _).2 (.inl (k2 p hp))⟩
    · rw [if_neg hmi]
      refine madeF_spec hr i m (by omega) hl hm h1 (fun j x hij hj hxj => ?_)
      by_cases hji : j = i
      · subst hji; exact absurd hj hmi
      · exact h2 j x (by omega) hj hxj
theorem made_spec (hr : r < E.length) : match made E r with
    | none => ¬ Good E r
    | some m => m.length = r + 1 ∧ (∀ j, m[j]? = some true ↔ Reach E r j) ∧ Good E r := by
  unfold made
  have hm : ((List.replicate (r + 1) false).set r true)[r]? = some true := by simp
  have hone : ∀ j, ((List.replicate (r + 1) false).set r true)[j]? = some true → j = r := by
    intro j hj
    by_cases h : r = j
    · exact h.symm
    · rw [List.getElem?_set_ne h] at hj
      have := List.getElem?_eq_some_iff.1 hj
      obtain ⟨h1, h2⟩ := this
      simp at h2
  refine madeF_spec hr (r + 1) _ (Nat.le_refl _) (by simp) hm (fun j hj => by rw [hone j hj]; exact .root) (fun j x hij hj => ?_)
  have := hone j hj; omega
end PCheck

namespace PCheck
variable {E : List Xp} {l : List Bd} {r : Nat}

theorem bound_more {l : List Bd} (more : List Bd) {n : List UInt8} {k : Int} (h : bound l n = some k) : bound (l ++ more) n = some k := by
  induction l with
  | nil => cases h
  | cons b l ih =>
    rw [List.cons_append]
    unfold bound at h ⊢
    by_cases hb : b.name = n
    · rw [if_pos hb] at h ⊢; exact h
    · rw [if_neg hb] at h ⊢; exact ih h
end PCheck

namespace PCheck
variable {E : List Xp} {l : List Bd} {r : Nat}

theorem oneOf_range {k : Int} {ls : List Int} (h : oneOf k ls ≠ 0) : k ∈ ls ∧ oneOf k ls = k := by
  unfold oneOf at h ⊢
  by_cases hk : k ∈ ls
  · rw [if_pos hk]; exact ⟨hk, rfl⟩
  · rw [if_neg hk] at h; exact absurd rfl h
theorem bound_range {l : List Bd} {n : List UInt8} {k : Int} (h : bound l n = some k) : k = 0 ∨ k = 1 ∨ k = 2 ∨ k = 3 ∨ k = 4 := by
  induction l with
  | nil => cases h
  | cons b l ih =>
    unfold bound at h
    by_cases hb : b.name = n
    · rw [if_pos hb] at h
      cases h
      by_cases h0 : oneOf b.kind [1, 2, 3, 4] = 0
      · exact .inl h0
      · obtain ⟨h1, h2⟩ := oneOf_range h0
        rw [h2]
        simp only [List.mem_cons, List.not_mem_nil, or_false] at h1
        exact .inr h1
    · rw [if_neg hb] at h; exact ih h
def Four (k : Int) : Prop := k = 0 ∨ k = 1 ∨ k = 2 ∨ k = 3 ∨ k = 4
theorem four_if {P : Prop} [Decidable P] {a b : Int} (ha : Four a) (hb : Four b) : Four (if P then a else b) := by
  by_cases h : P
  · rw [if_pos h]; exact ha
  · rw [if_neg h]; exact hb
theorem four_one {k : Int} {ls : List Int} (h : ∀ x ∈ ls, Four x) : Four (oneOf k ls) := by
  by_cases h0 : oneOf k ls = 0
  · exact .inl h0
  · obtain ⟨h1, h2⟩ := oneOf_range h0
    rw [h2]; exact h _ h1
theorem kindBy_four {op : List UInt8} {a b c : Int} (hb : Four b) : Four (kindBy op a b c) := by
  have f0 : Four 0 := .inl rfl
  have f1 : Four 1 := .inr (.inl rfl)
  have f2 : Four 2 := .inr (.inr (.inl rfl))
  have f3 : Four 3 := .inr (.inr (.inr (.inl rfl)))
  have f4 : Four 4 := .inr (.inr (.inr (.inr rfl)))
  have l13 : ∀ x ∈ ([1, 3] : List Int), Four x := by intro x hx; simp at hx; rcases hx with rfl | rfl <;> assumption
  have l123 : ∀ x ∈ ([1, 2, 3] : List Int), Four x := by intro x hx; simp at hx; rcases hx with rfl | rfl | rfl <;> assumption
  have hp : Four (product a b) := by unfold product; exact four_if f3 (four_if f1 (four_if f1 f0))
  have hf : ∀ k, Four (flag k) := fun k => by unfold flag; exact four_if f0 f4
  have hc : Four (common b c) := by unfold common; exact four_if hb f0
  unfold kindBy
  exact four_if f3 (four_if f1 (four_if f2 (four_if (four_one l13) (four_if (four_one l13) (four_if hp (four_if (hf _) (four_if (hf _) (four_if (four_one l123) (four_if (four_if hc f0) f0)))))))))
theorem kindOf_four {x : Xp} {ks : List Int} (h : ∀ i, Four (ks.getD i 0)) : Four (kindOf l x ks).1 := by
  unfold kindOf
  by_cases hn : x.op = nameS
  · rw [if_pos hn]
    cases hb : bound l x.name with
    | none => exact .inl rfl
    | some k =>
      simp only []
      by_cases hk : k = 0
      · rw [if_pos hk]; exact .inl rfl
      · rw [if_neg hk]; exact bound_range hb
  · rw [if_neg hn]
    simp only []
    have hf : Four (kindBy x.op (at0 ks (parts x) 0) (at0 ks (parts x) 1) (at0 ks (parts x) 2)) := kindBy_four (by
      unfold at0
      cases (parts x)[1]? with
      | none => exact .inl rfl
      | some p => exact h _)
    by_cases hk : kindBy x.op (at0 ks (parts x) 0) (at0 ks (parts x) 1) (at0 ks (parts x) 2) = 0
    · rw [if_pos hk]; exact .inl rfl
    · rw [if_neg hk]; exact hf
end PCheck
