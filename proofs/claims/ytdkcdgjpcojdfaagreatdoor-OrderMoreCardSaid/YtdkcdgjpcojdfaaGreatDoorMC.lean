/-
  The kind of an expression: which ones it is made of, and their kinds, from the first one on. Plain facts; no program is named here.
  The kind of a place by those of its parts; what a root is made of; when there is a kind. Plain facts; no program is named here.
  When there is a kind, and which; where there is none; what turns it and what not. Plain facts; no program is named here.
  The kinds of a few rows that are put behind: a name, a sign, a choice. Plain facts; no program is named here.
-/
import Derived.Test.YtdkcdgjpcojdfaaGreatDoorBase

namespace PCheck

/-- A row of any program. -/
structure Xp where
  op : List UInt8
  name : List UInt8
  value : Int
  a : Int
  b : Int
  c : Int
deriving DecidableEq
/-- A binding. -/
structure Bd where
  name : List UInt8
  kind : Int
deriving DecidableEq
def wholeS : List UInt8 := [119, 104, 111, 108, 101]
def amountS : List UInt8 := [97, 109, 111, 117, 110, 116]
def rateS : List UInt8 := [114, 97, 116, 101]
def nameS : List UInt8 := [110, 97, 109, 101]
def negS : List UInt8 := [110, 101, 103]
def ifS : List UInt8 := [105, 102]
/-- The places of the parts. -/
def parts (x : Xp) : List Int :=
  if x.op = wholeS ∨ x.op = amountS ∨ x.op = rateS ∨ x.op = nameS then []
  else if x.op = negS then [x.a]
  else if x.op = ifS then [x.a, x.b, x.c]
  else [x.a, x.b]
/-- Marks, with some places more; none: one of these is not ahead of i. -/
def mark (i : Nat) : List Int → List Bool → Option (List Bool)
  | [], m => some m
  | p :: l, m => if p < 0 ∨ (i : Int) ≤ p then none else mark i l (m.set p.toNat true)
/-- From place i - 1 down. -/
def madeF (E : List Xp) : Nat → List Bool → Option (List Bool)
  | 0, m => some m
  | i + 1, m => match E[i]? with
    | none => none
    | some x => if m[i]? = some true then match mark i (parts x) m with
        | none => none
        | some m' => madeF E i m'
      else madeF E i m
/-- Which ones the root is made of. -/
def made (E : List Xp) (r : Nat) : Option (List Bool) := madeF E (r + 1) ((List.replicate (r + 1) false).set r true)
def oneOf (k : Int) (l : List Int) : Int := if k ∈ l then k else 0
def common (a b : Int) : Int := if a = b then a else 0
def product (a b : Int) : Int := if a = 3 ∧ b = 3 then 3 else if a = 1 ∧ (b = 3 ∨ b = 2) then 1 else if b = 1 ∧ (a = 3 ∨ a = 2) then 1 else 0
def flag (k : Int) : Int := if k = 0 then 0 else 4
/-- The kind of an operation but a name, whose parts are of these. -/
def kindBy (op : List UInt8) (a b c : Int) : Int :=
  if op = wholeS then 3 else if op = amountS then 1 else if op = rateS then 2
  else if op = negS then oneOf a [1, 3]
  else if op = [43] ∨ op = [45] then oneOf (common a b) [1, 3]
  else if op = [42] then product a b
  else if op = [60] ∨ op = [60, 61] ∨ op = [62] ∨ op = [62, 61] then flag (oneOf (common a b) [1, 2, 3])
  else if op = [61] ∨ op = [60, 62] then flag (common a b)
  else if op = [109, 105, 110] ∨ op = [109, 97, 120] then oneOf (common a b) [1, 2, 3]
  else if op = ifS then (if a = 4 then common b c else 0)
  else 0
/-- The kind that a name is bound to first; none: it is nowhere. -/
def bound (l : List Bd) (n : List UInt8) : Option Int := match l with
  | [] => none
  | b :: l => if b.name = n then some (oneOf b.kind [1, 2, 3, 4]) else bound l n
def at0 (ks : List Int) (p : List Int) (n : Nat) : Int := match p[n]? with
  | none => 0
  | some q => ks.getD q.toNat 0
/-- The kind, or the error: 5, 7. -/
def kindOf (l : List Bd) (x : Xp) (ks : List Int) : Int × Nat :=
  if x.op = nameS then match bound l x.name with
    | none => (0, 5)
    | some k => if k = 0 then (0, 7) else (k, 0)
  else
    let k := kindBy x.op (at0 ks (parts x) 0) (at0 ks (parts x) 1) (at0 ks (parts x) 2)
    if k = 0 then (0, 7) else (k, 0)
/-- Kinds from place i on: the error and its place, or all of them. -/
def kindsF (l : List Bd) (E : List Xp) (m : List Bool) : Nat → Nat → List Int → Nat × Nat × List Int
  | 0, _, ks => (0, 0, ks)
  | f + 1, i, ks => match E[i]? with
    | none => (0, 0, ks)
    | some x => if m[i]? = some true then
        (if (kindOf l x ks).2 = 0 then kindsF l E m f (i + 1) (ks.set i (kindOf l x ks).1) else ((kindOf l x ks).2, i, ks))
      else kindsF l E m f (i + 1) ks
/-- What is told of kinds, or of an error. -/
def told (r : Nat) : Nat × Nat × List Int → Int × Nat × Nat
  | (0, _, ks) => (ks.getD r 0, 0, 0)
  | (e + 1, i, _) => (0, i, e + 1)
/-- Kind: the kind, the place, the error. -/
def kind (E : List Xp) (r : Int) (l : List Bd) : Int × Nat × Nat :=
  if r < 0 ∨ (E.length : Int) ≤ r then (0, 0, 1)
  else match made E r.toNat with
    | none => (0, 0, 1)
    | some m => told r.toNat (kindsF l E m (r.toNat + 1) 0 (List.replicate (r.toNat + 1) 0))
end PCheck

namespace PCheck
variable {E : List Xp} {l : List Bd} {r : Nat}

/-- All parts are ahead. -/
def Fine (i : Nat) (x : Xp) : Prop := ∀ p ∈ parts x, 0 ≤ p ∧ p < (i : Int)
instance (i : Nat) (x : Xp) : Decidable (Fine i x) := inferInstanceAs (Decidable (∀ p ∈ parts x, 0 ≤ p ∧ p < (i : Int)))
def stepK (E : List Xp) (l : List Bd) (ks : List Int) (n : Nat) : Int := match E[n]? with
  | none => 0
  | some x => if Fine n x then (kindOf l x ks).1 else 0
/-- The kinds of the first n places; 0: none. -/
def KL (E : List Xp) (l : List Bd) : Nat → List Int
  | 0 => []
  | n + 1 => KL E l n ++ [stepK E l (KL E l n) n]
def K (E : List Xp) (l : List Bd) (i : Nat) : Int := stepK E l (KL E l i) i
theorem KL_len : ∀ n, (KL E l n).length = n
  | 0 => rfl
  | n + 1 => by simp [KL, KL_len n]
theorem KL_get : ∀ (n i : Nat), i < n → (KL E l n).getD i 0 = K E l i
  | 0, _, h => by omega
  | n + 1, i, h => by
    by_cases hi : i < n
    · rw [← KL_get n i hi]
      simp only [KL, List.getD]
      rw [List.getElem?_append_left (by rw [KL_len]; exact hi)]
    · obtain rfl : i = n := by omega
      simp only [KL, List.getD]
      rw [List.getElem?_append_right (by rw [KL_len]; exact Nat.le_refl _), KL_len, Nat.sub_self]
      rfl
theorem at0_congr {ks ks' : List Int} {ps : List Int} (h : ∀ p ∈ ps, ks.getD p.toNat 0 = ks'.getD p.toNat 0) (n : Nat) : at0 ks ps n = at0 ks' ps n := by
  unfold at0
  cases hp : ps[n]? with
  | none => rfl
  | some p => exact h p (List.mem_of_getElem? hp)
theorem kindOf_congr {x : Xp} {ks ks' : List Int} (h : ∀ p ∈ parts x, ks.getD p.toNat 0 = ks'.getD p.toNat 0) : kindOf l x ks = kindOf l x ks' := by
  unfold kindOf
  rw [at0_congr h 0, at0_congr h 1, at0_congr h 2]
/-- A kind is told just without an error. -/
theorem kindOf_err (l : List Bd) (x : Xp) (ks : List Int) : (kindOf l x ks).2 = 0 ↔ (kindOf l x ks).1 ≠ 0 := by
  unfold kindOf
  by_cases h : x.op = nameS
  · rw [if_pos h]
    cases bound l x.name with
    | none => simp
    | some k =>
      simp only []
      by_cases hk : k = 0
      · rw [if_pos hk]; simp
      · rw [if_neg hk]; simpa using hk
  · rw [if_neg h]
    simp only []
    by_cases hk : kindBy x.op (at0 ks (parts x) 0) (at0 ks (parts x) 1) (at0 ks (parts x) 2) = 0
    · rw [if_pos hk]; simp
    · rw [if_neg hk]; simpa using hk
theorem kindOf_bad {x : Xp} {ks : List Int} (h : (kindOf l x ks).1 = 0) (hn : x.op ≠ nameS) : kindOf l x ks = (0, 7) := by
  unfold kindOf at h ⊢
  rw [if_neg hn] at h ⊢
  simp only [] at h ⊢
  by_cases hk : kindBy x.op (at0 ks (parts x) 0) (at0 ks (parts x) 1) (at0 ks (parts x) 2) = 0
  · rw [if_pos hk]
  · rw [if_neg hk] at h; exact absurd h hk
/-- Without a kind of a part there is none. -/
theorem kindBy_zero {op : List UInt8} {a b c : Int} (h : kindBy op a b c ≠ 0) (hw : op ≠ wholeS) (hm : op ≠ amountS) (hr : op ≠ rateS) :
    (op = negS → a ≠ 0) ∧ (op = ifS → a ≠ 0 ∧ b ≠ 0 ∧ c ≠ 0) ∧ (op ≠ negS → op ≠ ifS → a ≠ 0 ∧ b ≠ 0) := by
  unfold kindBy at h
  rw [if_neg hw, if_neg hm, if_neg hr] at h
  refine ⟨?_, ?_, ?_⟩
  · rintro rfl rfl
    rw [if_pos rfl] at h
    exact h (by decide)
  · rintro rfl
    rw [if_neg (by decide), if_neg (by decide), if_neg (by decide), if_neg (by decide), if_neg (by decide), if_neg (by decide), if_pos rfl] at h
    by_cases ha : a = 4
    · rw [if_pos ha] at h
      unfold common at h
      by_cases hb : b = c
      · rw [if_pos hb] at h; subst hb; exact ⟨by omega, h, h⟩
      · rw [if_neg hb] at h; exact absurd rfl h
    · rw [if_neg ha] at h; exact absurd rfl h
  · intro hn hi
    rw [if_neg hn] at h
    have hc : common a b ≠ 0 → a ≠ 0 ∧ b ≠ 0 := fun hc => by
      unfold common at hc
      by_cases hab : a = b
      · rw [if_pos hab] at hc; subst hab; exact ⟨hc, hc⟩
      · rw [if_neg hab] at hc; exact absurd rfl hc
    have ho : ∀ ls : List Int, 0 ∉ ls → oneOf (common a b) ls ≠ 0 → common a b ≠ 0 := fun ls h0 h1 h2 => by
      unfold oneOf at h1; rw [h2, if_neg h0] at h1; exact h1 rfl
    have hf : ∀ k : Int, flag k ≠ 0 → k ≠ 0 := fun k h1 h2 => by unfold flag at h1; rw [if_pos h2] at h1; exact h1 rfl
    by_cases h1 : op = [43] ∨ op = [45]
    · rw [if_pos h1] at h; exact hc (ho _ (by decide) h)
    rw [if_neg h1] at h
    by_cases h2 : op = [42]
    · rw [if_pos h2] at h
      unfold product at h
      by_cases g1 : a = 3 ∧ b = 3
      · omega
      rw [if_neg g1] at h
      by_cases g2 : a = 1 ∧ (b = 3 ∨ b = 2)
      · omega
      rw [if_neg g2] at h
      by_cases g3 : b = 1 ∧ (a = 3 ∨ a = 2)
      · omega
      rw [if_neg g3] at h; exact absurd rfl h
    rw [if_neg h2] at h
    by_cases h3 : op = [60] ∨ op = [60, 61] ∨ op = [62] ∨ op = [62, 61]
    · rw [if_pos h3] at h; exact hc (ho _ (by decide) (hf _ h))
    rw [if_neg h3] at h
    by_cases h4 : op = [61] ∨ op = [60, 62]
    · rw [if_pos h4] at h; exact hc (hf _ h)
    rw [if_neg h4] at h
    by_cases h5 : op = [109, 105, 110] ∨ op = [109, 97, 120]
    · rw [if_pos h5] at h; exact hc (ho _ (by decide) h)
    rw [if_neg h5, if_neg hi] at h; exact absurd rfl h
theorem kindOf_parts {x : Xp} {ks : List Int} (h : (kindOf l x ks).1 ≠ 0) : ∀ p ∈ parts x, ks.getD p.toNat 0 ≠ 0 := by
  intro p hp
  unfold parts at hp
  by_cases h0 : x.op = wholeS ∨ x.op = amountS ∨ x.op = rateS ∨ x.op = nameS
  · rw [if_pos h0] at hp; cases hp
  rw [if_neg h0] at hp
  have hw : x.op ≠ wholeS := fun e => h0 (.inl e)
  have hm : x.op ≠ amountS := fun e => h0 (.inr (.inl e))
  have hr : x.op ≠ rateS := fun e => h0 (.inr (.inr (.inl e)))
  have hn : x.op ≠ nameS := fun e => h0 (.inr (.inr (.inr e)))
  have hk : kindBy x.op (at0 ks (parts x) 0) (at0 ks (parts x) 1) (at0 ks (parts x) 2) ≠ 0 := by
    intro e
    unfold kindOf at h
    rw [if_neg hn] at h
    simp only [] at h
    rw [if_pos e] at h; exact h rfl
  obtain ⟨k1, k2, k3⟩ := kindBy_zero hk hw hm hr
  have hps : parts x = if x.op = negS then [x.a] else if x.op = ifS then [x.a, x.b, x.c] else [x.a, x.b] := by unfold parts; rw [if_neg h0]
  by_cases hg : x.op = negS
  · rw [if_pos hg] at hp hps
    have := k1 hg
    rw [hps] at this
    simp only [List.mem_singleton] at hp
    subst hp; exact this
  rw [if_neg hg] at hp hps
  by_cases hi : x.op = ifS
  · rw [if_pos hi] at hp hps
    have := k2 hi
    rw [hps] at this
    simp only [List.mem_cons, List.not_mem_nil, or_false] at hp
    rcases hp with rfl | rfl | rfl
    · exact this.1
    · exact this.2.1
    · exact this.2.2
  · rw [if_neg hi] at hp hps
    have := k3 hg hi
    rw [hps] at this
    simp only [List.mem_cons, List.not_mem_nil, or_false] at hp
    rcases hp with rfl | rfl
    · exact this.1
    · exact this.2
/-- A place with a kind: its parts are ahead, and have one. -/
theorem K_some {i : Nat} (h : K E l i ≠ 0) : ∃ x, E[i]? = some x ∧ Fine i x ∧ K E l i = (kindOf l x (KL E l i)).1 ∧ ∀ p ∈ parts x, K E l p.toNat ≠ 0 := by
  unfold K stepK at h ⊢
  cases hx : E[i]? with
  | none => rw [hx] at h; exact absurd rfl h
  | some x =>
    rw [hx] at h
    simp only [] at h ⊢
    by_cases hf : Fine i x
    · rw [if_pos hf] at h ⊢
      refine ⟨x, rfl, hf, rfl, fun p hp => ?_⟩
      have h1 := kindOf_parts h p hp
      obtain ⟨h2, h3⟩ := hf p hp
      rw [KL_get i p.toNat (by omega)] at h1
      exact h1
    · rw [if_neg hf] at h; exact absurd rfl h
theorem K_fine {i : Nat} {x : Xp} (hx : E[i]? = some x) (hf : Fine i x) : K E l i = (kindOf l x (KL E l i)).1 := by
  unfold K stepK; rw [hx]; simp only []; rw [if_pos hf]
/-- What a root is made of. -/
inductive Reach (E : List Xp) (r : Nat) : Nat → Prop
  | root : Reach E r r
  | part {i : Nat} {x : Xp} {p : Int} (h : Reach E r i) (hx : E[i]? = some x) (hp : p ∈ parts x) : Reach E r p.toNat
def Good (E : List Xp) (r : Nat) : Prop := ∀ i, Reach E r i → ∃ x, E[i]? = some x ∧ Fine i x
theorem reach_K (h : K E l r ≠ 0) : ∀ i, Reach E r i → K E l i ≠ 0 := by
  intro i hi
  induction hi with
  | root => exact h
  | part _ hx hp ih =>
    obtain ⟨x', hx', _, _, h4⟩ := K_some ih
    rw [hx] at hx'
    cases hx'
    exact h4 _ hp
theorem good_K (h : K E l r ≠ 0) : Good E r := fun i hi => by
  obtain ⟨x, hx, hf, _⟩ := K_some (reach_K h i hi)
  exact ⟨x, hx, hf⟩
theorem mark_spec {i : Nat} : ∀ (ps : List Int) (m : List Bool), i ≤ m.length → match mark i ps m with
    | none => ∃ p ∈ ps, ¬ (0 ≤ p ∧ p < (i : Int))
    | some m' => (∀ p ∈ ps, 0 ≤ p ∧ p < (i : Int)) ∧ m'.length = m.length ∧ ∀ j, m'[j]? = some true ↔ m[j]? = some true ∨ ∃ p ∈ ps, p.toNat = j
  | [], m, _ => ⟨fun p hp => (by cases hp), rfl, fun j => by simp⟩
  | p :: ps, m, hm => by
    unfold mark
    by_cases h : p < 0 ∨ (i : Int) ≤ p
    · rw [if_pos h]; exact ⟨p, List.mem_cons_self .., by omega⟩
    · rw [if_neg h]
      have ih := mark_spec ps (m.set p.toNat true) (by rw [List.length_set]; exact hm)
      cases hk : mark i ps (m.set p.toNat true) with
      | none =>
        rw [hk] at ih
        obtain ⟨q, hq, h2⟩ := ih
        exact ⟨q, List.mem_cons_of_mem _ hq, h2⟩
      | some m' =>
        rw [hk] at ih
        obtain ⟨h1, h2, h3⟩ := ih
        refine ⟨fun q hq => ?_, by rw [h2, List.length_set], fun j => ?_⟩
        · rcases List.mem_cons.1 hq with rfl | hq
          · omega
          · exact h1 q hq
        · rw [h3 j]
          by_cases hj : p.toNat = j
          · subst hj
            have hl : p.toNat < m.length := by omega
            simp [hl]
          · rw [List.getElem?_set_ne hj]
            constructor
            · rintro (h4 | ⟨q, hq, h4⟩)
              · exact .inl h4
              · exact .inr ⟨q, List.mem_cons_of_mem _ hq, h4⟩
            · rintro (h4 | ⟨q, hq, h4⟩)
              · exact .inl h4
              · rcases List.mem_cons.1 hq with rfl | hq
                · exact absurd h4 hj
                · exact .inr ⟨q, hq, h4⟩
theorem madeF_spec (hr : r < E.length) : ∀ (i : Nat) (m : List Bool), i ≤ r + 1 → m.length = r + 1 → m[r]? = some true → (∀ j, m[j]? = some true → Reach E r j) → (∀ j x, i ≤ j → m[j]? = some true → E[j]? = some x → Fine j x ∧ ∀ p ∈ parts x, m[p.toNat]? = some true) →
    match madeF E i m with
    | none => ¬ Good E r
    | some m' => m'.length = r + 1 ∧ (∀ j, m'[j]? = some true ↔ Reach E r j) ∧ Good E r
  | 0, m, _, hl, hm, h1, h2 => by
    have hall : ∀ j, Reach E r j → m[j]? = some true := by
      intro j hj
      induction hj with
      | root => exact hm
      | part _ hx hp ih => exact (h2 _ _ (Nat.zero_le _) ih hx).2 _ hp
    refine ⟨hl, fun j => ⟨h1 j, hall j⟩, fun j hj => ?_⟩
    have hmj := hall j hj
    have hjl : j < m.length := (List.getElem?_eq_some_iff.1 hmj).1
    have hje : j < E.length := by omega
    exact ⟨E[j], List.getElem?_eq_getElem hje, (h2 j _ (Nat.zero_le _) hmj (List.getElem?_eq_getElem hje)).1⟩
  | i + 1, m, hi, hl, hm, h1, h2 => by
    have hie : i < E.length := by omega
    have hx := List.getElem?_eq_getElem hie
    unfold madeF
    rw [hx]
    simp only []
    by_cases hmi : m[i]? = some true
    · rw [if_pos hmi]
      have hs := mark_spec (i := i) (parts E[i]) m (by omega)
      cases hk : mark i (parts E[i]) m with
      | none =>
        rw [hk] at hs
        obtain ⟨p, hp, hb⟩ := hs
        intro hg
        obtain ⟨x, hx', hf⟩ := hg i (h1 i hmi)
        rw [hx] at hx'; cases hx'
        exact hb (hf p hp)
      | some m' =>
        rw [hk] at hs
        obtain ⟨g1, g2, g3⟩ := hs
        refine madeF_spec hr i m' (by omega) (by omega) ((g3 r).2 (.inl hm)) (fun j hj => ?_) (fun j x hij hj hxj => ?_)
        · rcases (g3 j).1 hj with h | ⟨p, hp, rfl⟩
          · exact h1 j h
          · exact .part (h1 i hmi) hx hp
        · by_cases hji : j = i
          · subst hji
            rw [hx] at hxj; cases hxj
            exact ⟨g1, fun p hp => (g3 _).2 (.inr ⟨p, hp, rfl⟩)⟩
          · have hmj : m[j]? = some true := by
              rcases (g3 j).1 hj with h | ⟨p, hp, e⟩
              · exact h
              · have := g1 p hp; omega
            obtain ⟨k1, k2⟩ := h2 j x (by omega) hmj hxj
            exact ⟨k1, fun p hp => (g3 _).2 (.inl (k2 p hp))⟩
    · rw [if_neg hmi]
      refine madeF_spec hr i m (by omega) hl hm h1 (fun j x hij hj hxj => ?_)
      by_cases hji : j = i
      · subst hji; exact absurd hj hmi
      · exact h2 j x (by omega) hj hxj
theorem made_spec (hr : r < E.length) : match made E r with
    | none => ¬ Good E r
    | some m => m.length = r + 1 ∧ (∀ j, m[j]? = some true ↔ Reach E r j) ∧ Good E r := by
  unfold made
  have hm : ((List.replicate (r + 1) false).set r true)[r]? = some true := by simp
  have hone : ∀ j, ((List.replicate (r + 1) false).set r true)[j]? = some true → j = r := by
    intro j hj
    by_cases h : r = j
    · exact h.symm
    · rw [List.getElem?_set_ne h] at hj
      have := List.getElem?_eq_some_iff.1 hj
      obtain ⟨h1, h2⟩ := this
      simp at h2
  refine madeF_spec hr (r + 1) _ (Nat.le_refl _) (by simp) hm (fun j hj => by rw [hone j hj]; exact .root) (fun j x hij hj => ?_)
  have := hone j hj; omega
end PCheck

namespace PCheck
variable {E : List Xp} {l : List Bd} {r : Nat}

theorem kindsF_spec {m : List Bool} (hr : r < E.length) (hm : ∀ j, m[j]? = some true ↔ Reach E r j) (hg : Good E r) : ∀ (f i : Nat) (ks : List Int), i + f = r + 1 → ks.length = r + 1 → (∀ j, j < i → m[j]? = some true → ks.getD j 0 = K E l j ∧ K E l j ≠ 0) →
    match kindsF l E m f i ks with
    | (0, _, ks') => ∀ j, j ≤ r → m[j]? = some true → ks'.getD j 0 = K E l j ∧ K E l j ≠ 0
    | (e, q, _) => e ≠ 0 ∧ q ≤ r ∧ m[q]? = some true ∧ K E l q = 0 ∧ (∀ j, j < q → m[j]? = some true → K E l j ≠ 0) ∧ ∃ x, E[q]? = some x ∧ ∃ ks, (kindOf l x ks).1 = 0 ∧ e = (kindOf l x ks).2
  | 0, i, ks, hi, hl, h => by
    unfold kindsF
    exact fun j hj hmj => h j (by omega) hmj
  | f + 1, i, ks, hi, hl, h => by
    have hie : i < E.length := by omega
    have hx := List.getElem?_eq_getElem hie
    unfold kindsF
    rw [hx]
    simp only []
    by_cases hmi : m[i]? = some true
    · rw [if_pos hmi]
      obtain ⟨x, hx', hf⟩ := hg i ((hm i).1 hmi)
      rw [hx] at hx'; cases hx'
      have hK : K E l i = (kindOf l E[i] ks).1 := by
        rw [K_fine hx hf]
        refine congrArg Prod.fst (kindOf_congr fun p hp => ?_)
        obtain ⟨h1, h2⟩ := hf p hp
        rw [KL_get i p.toNat (by omega)]
        exact (h p.toNat (by omega) ((hm _).2 (.part ((hm i).1 hmi) hx hp))).1.symm
      by_cases he : (kindOf l E[i] ks).2 = 0
      · rw [if_pos he]
        refine kindsF_spec hr hm hg f (i + 1) _ (by omega) (by rw [List.length_set]; exact hl) (fun j hj hmj => ?_)
        by_cases hji : j = i
        · subst hji
          have hk := (kindOf_err l E[j] ks).1 he
          refine ⟨?_, by rw [hK]; exact hk⟩
          rw [hK]
          simp [List.getD, show j < ks.length by omega]
        · obtain ⟨h1, h2⟩ := h j (by omega) hmj
          refine ⟨?_, h2⟩
          rw [← h1]
          simp only [List.getD]
          rw [List.getElem?_set_ne (fun e => hji e.symm)]
      · rw [if_neg he]
        have hk : (kindOf l E[i] ks).1 = 0 := Classical.byContradiction fun hk => he ((kindOf_err l E[i] ks).2 hk)
        obtain ⟨e, hee⟩ : ∃ e, (kindOf l E[i] ks).2 = e := ⟨_, rfl⟩
        rw [hee] at he ⊢
        match e, he with
        | e + 1, he => exact ⟨he, by omega, hmi, by rw [hK]; exact hk, fun j hj hmj => (h j hj hmj).2, E[i], hx, ks, hk, hee.symm⟩
    · rw [if_neg hmi]
      refine kindsF_spec hr hm hg f (i + 1) ks (by omega) hl (fun j hj hmj => ?_)
      by_cases hji : j = i
      · subst hji; exact absurd hmj hmi
      · exact h j (by omega) hmj
/-- A root has the kind of its place; or an error, and none. -/
theorem kind_iff (hr : r < E.length) : (K E l r ≠ 0 → kind E r l = (K E l r, 0, 0)) ∧ (K E l r = 0 → (kind E r l).2.2 ≠ 0 ∧ (kind E r l).1 = 0) ∧
    (∀ q e, kind E r l = (0, q, e) → e ≠ 0 → e ≠ 1 → q ≤ r ∧ Reach E r q ∧ K E l q = 0 ∧ (∀ j, j < q → Reach E r j → K E l j ≠ 0) ∧ ∃ x, E[q]? = some x ∧ ∃ ks, (kindOf l x ks).1 = 0 ∧ e = (kindOf l x ks).2) ∧
    (Good E r → (kind E r l).2.2 ≠ 1) := by
  have ms := made_spec hr
  have hk0 : kind E (r : Nat) l = (match made E r with
    | none => (0, 0, 1)
    | some m => told r (kindsF l E m (r + 1) 0 (List.replicate (r + 1) 0))) := by
    unfold kind
    rw [if_neg (by omega), Int.toNat_natCast]
    try rfl
  rw [hk0]
  cases hm : made E r with
  | none =>
    rw [hm] at ms
    exact ⟨fun h => absurd (good_K h) ms, fun _ => ⟨Nat.one_ne_zero, rfl⟩, fun q e h h0 h1 => (by cases h; exact absurd rfl h1), fun h => absurd h ms⟩
  | some m =>
    rw [hm] at ms
    obtain ⟨h1, h2, h3⟩ := ms
    have hs := kindsF_spec (l := l) hr h2 h3 (r + 1) 0 (List.replicate (r + 1) 0) (by omega) (by simp) (fun j hj => by omega)
    obtain ⟨⟨e, i, ks⟩, hq⟩ : ∃ q, kindsF l E m (r + 1) 0 (List.replicate (r + 1) 0) = q := ⟨_, rfl⟩
    rw [hq] at hs
    simp only [hq]
    match e, hs with
    | 0, hs =>
      obtain ⟨g1, g2⟩ := hs r (Nat.le_refl _) ((h2 r).2 .root)
      have ht : told r (0, i, ks) = (K E l r, 0, 0) := by show (ks.getD r 0, 0, 0) = _; rw [g1]
      rw [ht]
      exact ⟨fun _ => rfl, fun h => absurd h g2, fun q e h h0 h1' => absurd (congrArg (fun z => z.2.2) h).symm h0, fun _ => Nat.zero_ne_one⟩
    | e + 1, hs =>
      obtain ⟨g1, g2, g3, g4, g5, g6⟩ := hs
      have ht : told r (e + 1, i, ks) = (0, i, e + 1) := rfl
      rw [ht]
      refine ⟨fun h => absurd g4 (reach_K h i ((h2 i).1 g3)), fun _ => ⟨g1, rfl⟩, fun q e' h h0 h1' => ?_, fun _ => ?_⟩
      · cases h
        exact ⟨g2, (h2 _).1 g3, g4, fun j hj hR => g5 j hj ((h2 j).2 hR), g6⟩
      · obtain ⟨x, hx, ks', k1, k2⟩ := g6
        show e + 1 ≠ 1
        rw [k2]
        have k3 : (kindOf l x ks').2 ≠ 0 := by rw [← k2]; omega
        unfold kindOf at k1 k3 ⊢
        by_cases hn : x.op = nameS
        · rw [if_pos hn] at k3 ⊢
          cases hb : bound l x.name with
          | none => show (5 : Nat) ≠ 1; decide
          | some k =>
            rw [hb] at k3
            simp only [] at k3 ⊢
            by_cases hk : k = 0
            · rw [if_pos hk]; show (7 : Nat) ≠ 1; decide
            · rw [if_neg hk] at k3; exact absurd rfl k3
        · rw [if_neg hn] at k3 ⊢
          simp only [] at k3 ⊢
          by_cases hk : kindBy x.op (at0 ks' (parts x) 0) (at0 ks' (parts x) 1) (at0 ks' (parts x) 2) = 0
          · rw [if_pos hk]; show (7 : Nat) ≠ 1; decide
          · rw [if_neg hk] at k3; exact absurd rfl k3
/-- Where all parts of a root have a kind, and it has none: it is told. -/
theorem kind_root {x : Xp} (hx : E[r]? = some x) (hf : Fine r x) (hp : ∀ p ∈ parts x, K E l p.toNat ≠ 0) (h0 : K E l r = 0) (hn : x.op ≠ nameS) : kind E r l = (0, r, 7) := by
  have hr : r < E.length := (List.getElem?_eq_some_iff.1 hx).1
  have hre : ∀ j, Reach E r j → j = r ∨ K E l j ≠ 0 := by
    intro j hj
    induction hj with
    | root => exact .inl rfl
    | @part i y p _ hy hpy ih =>
      rcases ih with rfl | ih
      · rw [hx] at hy; cases hy; exact .inr (hp _ hpy)
      · obtain ⟨x', hx', _, _, h4⟩ := K_some ih
        rw [hy] at hx'; cases hx'
        exact .inr (h4 _ hpy)
  have hg : Good E r := fun j hj => by
    rcases hre j hj with rfl | h
    · exact ⟨x, hx, hf⟩
    · obtain ⟨x', hx', hf', _⟩ := K_some h
      exact ⟨x', hx', hf'⟩
  obtain ⟨_, k2, k3, k4⟩ := kind_iff (l := l) hr
  obtain ⟨e1, e2⟩ := k2 h0
  have e3 := k4 hg
  obtain ⟨⟨k, q, e⟩, hk⟩ : ∃ z, kind E r l = z := ⟨_, rfl⟩
  rw [hk] at e1 e2 e3 k3
  simp only [] at e1 e2 e3
  subst e2
  obtain ⟨g1, g2, g3, g4, y, hy, ks, g5, g6⟩ := k3 q e rfl e1 e3
  rcases hre q g2 with rfl | h
  · rw [hx] at hy; cases hy
    rw [hk, g6, kindOf_bad g5 hn]
  · exact absurd g3 h
/-- Rows behind turn nothing. -/
theorem KL_append (F : List Xp) : ∀ n, n ≤ E.length → KL (E ++ F) l n = KL E l n
  | 0, _ => rfl
  | n + 1, h => by
    simp only [KL, KL_append F n (by omega)]
    unfold stepK
    rw [List.getElem?_append_left (by omega)]
theorem K_append (F : List Xp) {i : Nat} (h : i < E.length) : K (E ++ F) l i = K E l i := by
  unfold K
  rw [KL_append F i (by omega)]
  unfold stepK
  rw [List.getElem?_append_left h]
/-- A row put behind, of parts that are there. -/
theorem K_last {F : List Xp} {x : Xp} {i : Nat} (hx : (E ++ F)[i]? = some x) (hi : E.length ≤ i) (hp : ∀ p ∈ parts x, 0 ≤ p ∧ p < (E.length : Int)) : K (E ++ F) l i = (kindOf l x (KL E l E.length)).1 := by
  rw [K_fine hx (fun p h => by have := hp p h; omega)]
  refine congrArg Prod.fst (kindOf_congr fun p h => ?_)
  obtain ⟨h1, h2⟩ := hp p h
  rw [KL_get i p.toNat (by omega), KL_get _ p.toNat (by omega), K_append F (by omega)]
/-- More bindings behind. -/
theorem bound_more {l : List Bd} (more : List Bd) {n : List UInt8} {k : Int} (h : bound l n = some k) : bound (l ++ more) n = some k := by
  induction l with
  | nil => cases h
  | cons b l ih =>
    rw [List.cons_append]
    unfold bound at h ⊢
    by_cases hb : b.name = n
    · rw [if_pos hb] at h ⊢; exact h
    · rw [if_neg hb] at h ⊢; exact ih h
theorem kindOf_more {x : Xp} {ks : List Int} (more : List Bd) (h : (kindOf l x ks).1 ≠ 0) : kindOf (l ++ more) x ks = kindOf l x ks := by
  unfold kindOf at h ⊢
  by_cases hn : x.op = nameS
  · rw [if_pos hn] at h ⊢
    rw [if_pos hn]
    cases hb : bound l x.name with
    | none => rw [hb] at h; exact absurd rfl h
    | some k => rw [bound_more more hb]
  · rw [if_neg hn, if_neg hn]
theorem K_more (more : List Bd) : ∀ (n i : Nat), i < n → K E l i ≠ 0 → K E (l ++ more) i = K E l i
  | 0, _, h, _ => by omega
  | n + 1, i, hi, h => by
    obtain ⟨x, hx, hf, h1, h2⟩ := K_some h
    rw [K_fine hx hf, h1, ← kindOf_more (ks := KL E l i) more (by rw [← h1]; exact h)]
    refine congrArg Prod.fst (kindOf_congr fun p hp => ?_)
    obtain ⟨h3, h4⟩ := hf p hp
    rw [KL_get i p.toNat (by omega), KL_get i p.toNat (by omega)]
    exact K_more more n p.toNat (by omega) (h2 p hp)
theorem kind_more (more : List Bd) {r : Int} (h : (kind E r l).2.2 = 0) : kind E r (l ++ more) = kind E r l := by
  by_cases hr : r < 0 ∨ (E.length : Int) ≤ r
  · unfold kind at h; rw [if_pos hr] at h; cases h
  · obtain ⟨n, rfl⟩ : ∃ n : Nat, r = n := ⟨r.toNat, by omega⟩
    have hn : n < E.length := by omega
    obtain ⟨k1, k2, _⟩ := kind_iff (l := l) hn
    have hK : K E l n ≠ 0 := fun e => (k2 e).1 h
    have hK2 := K_more more (n + 1) n (by omega) hK
    rw [k1 hK, (kind_iff (l := l ++ more) hn).1 (by rw [hK2]; exact hK), hK2]
/-- A binding of a name that is nowhere. -/
theorem kind_nobody {b : Bd} (hb : ∀ x ∈ E, x.name ≠ b.name) (r : Int) : kind E r (b :: l) = kind E r l := by
  have hk : ∀ x ∈ E, ∀ ks, kindOf (b :: l) x ks = kindOf l x ks := fun x hx ks => by
    unfold kindOf
    have : bound (b :: l) x.name = bound l x.name := by
      show (if b.name = x.name then _ else bound l x.name) = _
      rw [if_neg (fun e => hb x hx e.symm)]
    rw [this]
  have hF : ∀ (m : List Bool) (f i : Nat) (ks : List Int), kindsF (b :: l) E m f i ks = kindsF l E m f i ks := by
    intro m f
    induction f with
    | zero => intro i ks; rfl
    | succ f ih =>
      intro i ks
      unfold kindsF
      cases hx : E[i]? with
      | none => rfl
      | some x =>
        simp only []
        rw [hk x (List.mem_of_getElem? hx), ih, ih]
  unfold kind
  by_cases hr : r < 0 ∨ (E.length : Int) ≤ r
  · rw [if_pos hr, if_pos hr]
  · rw [if_neg hr, if_neg hr]
    cases made E r.toNat with
    | none => rfl
    | some m => simp only [hF]
end PCheck

namespace PCheck
variable {E : List Xp} {l : List Bd} {r : Nat}

theorem oneOf_range {k : Int} {ls : List Int} (h : oneOf k ls ≠ 0) : k ∈ ls ∧ oneOf k ls = k := by
  unfold oneOf at h ⊢
  by_cases hk : k ∈ ls
  · rw [if_pos hk]; exact ⟨hk, rfl⟩
  · rw [if_neg hk] at h; exact absurd rfl h
theorem bound_range {l : List Bd} {n : List UInt8} {k : Int} (h : bound l n = some k) : k = 0 ∨ k = 1 ∨ k = 2 ∨ k = 3 ∨ k = 4 := by
  induction l with
  | nil => cases h
  | cons b l ih =>
    unfold bound at h
    by_cases hb : b.name = n
    · rw [if_pos hb] at h
      cases h
      by_cases h0 : oneOf b.kind [1, 2, 3, 4] = 0
      · exact .inl h0
      · obtain ⟨h1, h2⟩ := oneOf_range h0
        rw [h2]
        simp only [List.mem_cons, List.not_mem_nil, or_false] at h1
        exact .inr h1
    · rw [if_neg hb] at h; exact ih h
/-- A kind is one of four, or none; the kinds of the parts are. -/
def Four (k : Int) : Prop := k = 0 ∨ k = 1 ∨ k = 2 ∨ k = 3 ∨ k = 4
theorem four_if {P : Prop} [Decidable P] {a b : Int} (ha : Four a) (hb : Four b) : Four (if P then a else b) := by
  by_cases h : P
  · rw [if_pos h]; exact ha
  · rw [if_neg h]; exact hb
theorem four_one {k : Int} {ls : List Int} (h : ∀ x ∈ ls, Four x) : Four (oneOf k ls) := by
  by_cases h0 : oneOf k ls = 0
  · exact .inl h0
  · obtain ⟨h1, h2⟩ := oneOf_range h0
    rw [h2]; exact h _ h1
theorem kindBy_four {op : List UInt8} {a b c : Int} (hb : Four b) : Four (kindBy op a b c) := by
  have f0 : Four 0 := .inl rfl
  have f1 : Four 1 := .inr (.inl rfl)
  have f2 : Four 2 := .inr (.inr (.inl rfl))
  have f3 : Four 3 := .inr (.inr (.inr (.inl rfl)))
  have f4 : Four 4 := .inr (.inr (.inr (.inr rfl)))
  have l13 : ∀ x ∈ ([1, 3] : List Int), Four x := by intro x hx; simp at hx; rcases hx with rfl | rfl <;> assumption
  have l123 : ∀ x ∈ ([1, 2, 3] : List Int), Four x := by intro x hx; simp at hx; rcases hx with rfl | rfl | rfl <;> assumption
  have hp : Four (product a b) := by unfold product; exact four_if f3 (four_if f1 (four_if f1 f0))
  have hf : ∀ k, Four (flag k) := fun k => by unfold flag; exact four_if f0 f4
  have hc : Four (common b c) := by unfold common; exact four_if hb f0
  unfold kindBy
  exact four_if f3 (four_if f1 (four_if f2 (four_if (four_one l13) (four_if (four_one l13) (four_if hp (four_if (hf _) (four_if (hf _) (four_if (four_one l123) (four_if (four_if hc f0) f0)))))))))
theorem kindOf_four {x : Xp} {ks : List Int} (h : ∀ i, Four (ks.getD i 0)) : Four (kindOf l x ks).1 := by
  unfold kindOf
  by_cases hn : x.op = nameS
  · rw [if_pos hn]
    cases hb : bound l x.name with
    | none => exact .inl rfl
    | some k =>
      simp only []
      by_cases hk : k = 0
      · rw [if_pos hk]; exact .inl rfl
      · rw [if_neg hk]; exact bound_range hb
  · rw [if_neg hn]
    simp only []
    have hf : Four (kindBy x.op (at0 ks (parts x) 0) (at0 ks (parts x) 1) (at0 ks (parts x) 2)) := kindBy_four (by
      unfold at0
      cases (parts x)[1]? with
      | none => exact .inl rfl
      | some p => exact h _)
    by_cases hk : kindBy x.op (at0 ks (parts x) 0) (at0 ks (parts x) 1) (at0 ks (parts x) 2) = 0
    · rw [if_pos hk]; exact .inl rfl
    · rw [if_neg hk]; exact hf
theorem KL_four : ∀ n i, Four ((KL E l n).getD i 0)
  | 0, i => by simp only [KL]; exact .inl (by simp)
  | n + 1, i => by
    simp only [KL, List.getD]
    by_cases hi : i < n
    · rw [List.getElem?_append_left (by rw [KL_len]; exact hi)]
      exact KL_four n i
    · rw [List.getElem?_append_right (by rw [KL_len]; omega), KL_len]
      by_cases h0 : i - n = 0
      · rw [h0]
        show Four (stepK E l (KL E l n) n)
        unfold stepK
        cases E[n]? with
        | none => exact .inl rfl
        | some x => exact four_if (kindOf_four (fun j => KL_four n j)) (.inl rfl)
      · have : ([stepK E l (KL E l n) n] : List Int)[i - n]? = none := by
          rw [List.getElem?_eq_none]; simp; omega
        rw [this]; exact .inl rfl
theorem K_four (i : Nat) : Four (K E l i) := by
  rw [← KL_get (i + 1) i (Nat.lt_succ_self i)]; exact KL_four _ _
/-- A kind without an error: the place's. -/
theorem kind_ok {r : Int} (h : (kind E r l).2.2 = 0) : 0 ≤ r ∧ r < (E.length : Int) ∧ K E l r.toNat ≠ 0 ∧ kind E r l = (K E l r.toNat, 0, 0) := by
  by_cases hr : r < 0 ∨ (E.length : Int) ≤ r
  · unfold kind at h; rw [if_pos hr] at h; cases h
  · obtain ⟨n, rfl⟩ : ∃ n : Nat, r = n := ⟨r.toNat, by omega⟩
    have hn : n < E.length := by omega
    obtain ⟨k1, k2, _⟩ := kind_iff (l := l) hn
    have hK : K E l n ≠ 0 := fun e => (k2 e).1 h
    rw [Int.toNat_natCast]
    exact ⟨by omega, by omega, hK, k1 hK⟩
theorem kind_zero {r : Int} (h : (kind E r l).2.2 ≠ 0) : (kind E r l).1 = 0 := by
  by_cases hr : r < 0 ∨ (E.length : Int) ≤ r
  · unfold kind; rw [if_pos hr]
  · obtain ⟨n, rfl⟩ : ∃ n : Nat, r = n := ⟨r.toNat, by omega⟩
    have hn : n < E.length := by omega
    obtain ⟨k1, k2, _⟩ := kind_iff (l := l) hn
    by_cases hK : K E l n = 0
    · exact (k2 hK).2
    · rw [k1 hK] at h; exact absurd rfl h
/-- A name, alone. -/
theorem kind_name (n : List UInt8) (v a b c : Int) : kind [⟨nameS, n, v, a, b, c⟩] 0 l = match bound l n with
    | none => (0, 0, 5)
    | some k => if k = 0 then (0, 0, 7) else (k, 0, 0) := by
  have hf : Fine 0 ⟨nameS, n, v, a, b, c⟩ := fun p hp => by unfold parts at hp; rw [if_pos (.inr (.inr (.inr rfl)))] at hp; cases hp
  have hK : K [⟨nameS, n, v, a, b, c⟩] l 0 = (match bound l n with | none => 0 | some k => k) := by
    rw [K_fine (x := ⟨nameS, n, v, a, b, c⟩) rfl hf]
    unfold kindOf
    rw [if_pos rfl]
    cases bound l n with
    | none => rfl
    | some k =>
      simp only []
      by_cases hk : k = 0
      · rw [if_pos hk, hk]
      · rw [if_neg hk]
  have h0 : (0 : Nat) < ([⟨nameS, n, v, a, b, c⟩] : List Xp).length := by simp
  obtain ⟨k1, k2, k3, k4⟩ := kind_iff (l := l) h0
  have hre : ∀ j, Reach [⟨nameS, n, v, a, b, c⟩] 0 j → j = 0 := by
    intro j hj
    induction hj with
    | root => rfl
    | @part i x p _ hx hp ih =>
      subst ih
      cases hx
      unfold parts at hp
      rw [if_pos (.inr (.inr (.inr rfl)))] at hp; cases hp
  have hg : Good [⟨nameS, n, v, a, b, c⟩] 0 := fun j hj => by rw [hre j hj]; exact ⟨_, rfl, hf⟩
  by_cases hk : K [⟨nameS, n, v, a, b, c⟩] l 0 = 0
  · obtain ⟨e1, e2⟩ := k2 hk
    have e3 := k4 hg
    obtain ⟨⟨k, q, e⟩, hz⟩ : ∃ z, kind [⟨nameS, n, v, a, b, c⟩] (0 : Nat) l = z := ⟨_, rfl⟩
    have hz' : kind [⟨nameS, n, v, a, b, c⟩] 0 l = (k, q, e) := hz
    rw [hz] at e1 e2 e3 k3
    rw [hz']
    simp only [] at e1 e2 e3
    subst e2
    obtain ⟨g1, g2, g3, g4, y, hy, ks, g5, g6⟩ := k3 q e rfl e1 e3
    have hq := hre q g2
    subst hq
    cases hy
    rw [hK] at hk
    have g7 : (kindOf l ⟨nameS, n, v, a, b, c⟩ ks).2 = match bound l n with | none => 5 | some k => if k = 0 then 7 else 0 := by
      unfold kindOf
      rw [if_pos rfl]
      cases bound l n with
      | none => rfl
      | some k =>
        simp only []
        by_cases hk : k = 0
        · rw [if_pos hk, if_pos hk]
        · rw [if_neg hk, if_neg hk]
    rw [g6, g7]
    cases hb : bound l n with
    | none => rfl
    | some k =>
      rw [hb] at hk
      simp only [] at hk ⊢
      rw [if_pos hk, if_pos hk]
  · have := k1 hk
    have hz' : kind [⟨nameS, n, v, a, b, c⟩] 0 l = (K [⟨nameS, n, v, a, b, c⟩] l 0, 0, 0) := this
    rw [hz']
    rw [hK] at hk ⊢
    cases hb : bound l n with
    | none => rw [hb] at hk; exact absurd rfl hk
    | some k =>
      rw [hb] at hk
      simp only [] at hk ⊢
      rw [if_neg hk]
end PCheck
