/-
  The kinds of a few rows that are put behind: signs, sums, what compares, choices. Plain facts; no program is named here.
-/
import Derived.Test.YtdkcdgjpcojdfaaGreatDoorMC

namespace PCheck
variable {E : List Xp} {l : List Bd}

theorem get_last (F : List Xp) (i : Nat) : (E ++ F)[E.length + i]? = F[i]? := by
  rw [List.getElem?_append_right (by omega), Nat.add_sub_cancel_left]
/-- A row of two parts that are there. -/
theorem K_two {F : List Xp} {op : List UInt8} {nm : List UInt8} {v c : Int} {a b i : Nat} (hx : F[i]? = some ⟨op, nm, v, a, b, c⟩) (ha : a < E.length) (hb : b < E.length)
    (ho : op ∉ [wholeS, amountS, rateS, nameS, negS, ifS]) : K (E ++ F) l (E.length + i) = kindBy op (K E l a) (K E l b) 0 := by
  simp only [List.mem_cons, List.not_mem_nil, or_false, not_or] at ho
  obtain ⟨o1, o2, o3, o4, o5, o6⟩ := ho
  have hp : parts (⟨op, nm, v, a, b, c⟩ : Xp) = [(a : Int), (b : Int)] := by
    unfold parts
    rw [if_neg (by rintro (h | h | h | h); exact o1 h; exact o2 h; exact o3 h; exact o4 h), if_neg o5, if_neg o6]
  rw [K_last (x := ⟨op, nm, v, a, b, c⟩) (by rw [get_last]; exact hx) (by omega) (fun p h => by rw [hp] at h; simp at h; omega)]
  unfold kindOf
  rw [if_neg o4, hp]
  have e0 : at0 (KL E l E.length) [(a : Int), (b : Int)] 0 = K E l a := by show (KL E l E.length).getD ((a : Int).toNat) 0 = _; rw [Int.toNat_natCast, KL_get _ a ha]
  have e1 : at0 (KL E l E.length) [(a : Int), (b : Int)] 1 = K E l b := by show (KL E l E.length).getD ((b : Int).toNat) 0 = _; rw [Int.toNat_natCast, KL_get _ b hb]
  have e2 : at0 (KL E l E.length) [(a : Int), (b : Int)] 2 = 0 := rfl
  rw [e0, e1, e2]
  simp only []
  by_cases hk : kindBy op (K E l a) (K E l b) 0 = 0
  · rw [if_pos hk, hk]
  · rw [if_neg hk]
theorem K_neg {F : List Xp} {nm : List UInt8} {v b c : Int} {a i : Nat} (hx : F[i]? = some ⟨negS, nm, v, a, b, c⟩) (ha : a < E.length) : K (E ++ F) l (E.length + i) = oneOf (K E l a) [1, 3] := by
  have hp : parts (⟨negS, nm, v, a, b, c⟩ : Xp) = [(a : Int)] := rfl
  rw [K_last (x := ⟨negS, nm, v, a, b, c⟩) (by rw [get_last]; exact hx) (by omega) (fun p h => by rw [hp] at h; simp at h; omega)]
  unfold kindOf
  rw [if_neg (show ¬ negS = nameS by decide), hp]
  have e0 : at0 (KL E l E.length) [(a : Int)] 0 = K E l a := by show (KL E l E.length).getD ((a : Int).toNat) 0 = _; rw [Int.toNat_natCast, KL_get _ a ha]
  have e1 : at0 (KL E l E.length) [(a : Int)] 1 = 0 := rfl
  have e2 : at0 (KL E l E.length) [(a : Int)] 2 = 0 := rfl
  rw [e0, e1, e2]
  have hk : kindBy negS (K E l a) 0 0 = oneOf (K E l a) [1, 3] := rfl
  simp only [hk]
  by_cases h : oneOf (K E l a) [1, 3] = 0
  · rw [if_pos h, h]
  · rw [if_neg h]
theorem K_if {F : List Xp} {nm : List UInt8} {v : Int} {a b c i : Nat} (hx : F[i]? = some ⟨ifS, nm, v, a, b, c⟩) (ha : a < E.length) (hb : b < E.length) (hc : c < E.length) : K (E ++ F) l (E.length + i) = if K E l a = 4 then common (K E l b) (K E l c) else 0 := by
  have hp : parts (⟨ifS, nm, v, a, b, c⟩ : Xp) = [(a : Int), (b : Int), (c : Int)] := rfl
  rw [K_last (x := ⟨ifS, nm, v, a, b, c⟩) (by rw [get_last]; exact hx) (by omega) (fun p h => by rw [hp] at h; simp at h; omega)]
  unfold kindOf
  rw [if_neg (show ¬ ifS = nameS by decide), hp]
  have e0 : at0 (KL E l E.length) [(a : Int), (b : Int), (c : Int)] 0 = K E l a := by show (KL E l E.length).getD ((a : Int).toNat) 0 = _; rw [Int.toNat_natCast, KL_get _ a ha]
  have e1 : at0 (KL E l E.length) [(a : Int), (b : Int), (c : Int)] 1 = K E l b := by show (KL E l E.length).getD ((b : Int).toNat) 0 = _; rw [Int.toNat_natCast, KL_get _ b hb]
  have e2 : at0 (KL E l E.length) [(a : Int), (b : Int), (c : Int)] 2 = K E l c := by show (KL E l E.length).getD ((c : Int).toNat) 0 = _; rw [Int.toNat_natCast, KL_get _ c hc]
  rw [e0, e1, e2]
  have hk : kindBy ifS (K E l a) (K E l b) (K E l c) = if K E l a = 4 then common (K E l b) (K E l c) else 0 := rfl
  simp only [hk]
  by_cases h : (if K E l a = 4 then common (K E l b) (K E l c) else 0) = 0
  · rw [if_pos h, h]
  · rw [if_neg h]
theorem K_whole {F : List Xp} {nm : List UInt8} {v a b c : Int} {i : Nat} (hx : F[i]? = some ⟨wholeS, nm, v, a, b, c⟩) : K (E ++ F) l (E.length + i) = 3 := by
  have hp : parts (⟨wholeS, nm, v, a, b, c⟩ : Xp) = [] := rfl
  rw [K_last (x := ⟨wholeS, nm, v, a, b, c⟩) (by rw [get_last]; exact hx) (by omega) (fun p h => by rw [hp] at h; cases h)]
  rfl
/-- An expression, taken off 0; the lesser one of it and it; it held against it. -/
theorem neg_law {a : Nat} (ha : a < E.length) (hk : K E l a ≠ 0) : ∃ k1 k2,
    (kind (E ++ [⟨negS, [], 0, a, 0, 0⟩, ⟨[109, 105, 110], [], 0, a, a, 0⟩, ⟨[61], [], 0, a, a, 0⟩]) (E.length : Nat) l).1 = k1 ∧ ((kind (E ++ [⟨negS, [], 0, a, 0, 0⟩, ⟨[109, 105, 110], [], 0, a, a, 0⟩, ⟨[61], [], 0, a, a, 0⟩]) (E.length : Nat) l).2.2 = 0 ↔ K E l a = 1 ∨ K E l a = 3) ∧ ((K E l a = 1 ∨ K E l a = 3) → k1 = K E l a) ∧
    (kind (E ++ [⟨negS, [], 0, a, 0, 0⟩, ⟨[109, 105, 110], [], 0, a, a, 0⟩, ⟨[61], [], 0, a, a, 0⟩]) (E.length + 1 : Nat) l).1 = k2 ∧ ((kind (E ++ [⟨negS, [], 0, a, 0, 0⟩, ⟨[109, 105, 110], [], 0, a, a, 0⟩, ⟨[61], [], 0, a, a, 0⟩]) (E.length + 1 : Nat) l).2.2 = 0 ↔ K E l a ≠ 4) ∧ (K E l a ≠ 4 → k2 = K E l a) ∧
    kind (E ++ [⟨negS, [], 0, a, 0, 0⟩, ⟨[109, 105, 110], [], 0, a, a, 0⟩, ⟨[61], [], 0, a, a, 0⟩]) (E.length + 2 : Nat) l = (4, 0, 0) := by
  obtain ⟨F, hF⟩ : ∃ F : List Xp, F = [⟨negS, [], 0, a, 0, 0⟩, ⟨[109, 105, 110], [], 0, a, a, 0⟩, ⟨[61], [], 0, a, a, 0⟩] := ⟨_, rfl⟩
  rw [← hF]
  have hl : (E ++ F).length = E.length + 3 := by rw [List.length_append, hF]; rfl
  have K0 : K (E ++ F) l (E.length + 0) = oneOf (K E l a) [1, 3] := K_neg (by rw [hF]; rfl) ha
  have K1 : K (E ++ F) l (E.length + 1) = oneOf (K E l a) [1, 2, 3] := by
    rw [K_two (by rw [hF]; rfl) ha ha (by decide)]
    show oneOf (common (K E l a) (K E l a)) [1, 2, 3] = _
    unfold common; rw [if_pos rfl]
  have K2 : K (E ++ F) l (E.length + 2) = 4 := by
    rw [K_two (by rw [hF]; rfl) ha ha (by decide)]
    show flag (common (K E l a) (K E l a)) = _
    unfold common flag; rw [if_pos rfl, if_neg hk]
  obtain ⟨p1, p2, _⟩ := kind_iff (l := l) (E := E ++ F) (r := E.length) (by omega)
  obtain ⟨q1, q2, _⟩ := kind_iff (l := l) (E := E ++ F) (r := E.length + 1) (by omega)
  obtain ⟨s1, _⟩ := kind_iff (l := l) (E := E ++ F) (r := E.length + 2) (by omega)
  rw [Nat.add_zero] at K0
  refine ⟨_, _, rfl, ?_, ?_, rfl, ?_, ?_, ?_⟩
  · constructor
    · intro h
      have : K (E ++ F) l E.length ≠ 0 := fun e => (p2 e).1 h
      rw [K0] at this
      have := (oneOf_range this).1
      simpa using this
    · intro h
      have : K (E ++ F) l E.length ≠ 0 := by rw [K0]; unfold oneOf; rw [if_pos (by simpa using h)]; exact hk
      rw [p1 this]
  · intro h
    have e : K (E ++ F) l E.length = K E l a := by rw [K0]; unfold oneOf; rw [if_pos (by simpa using h)]
    rw [p1 (by rw [e]; exact hk)]; exact e
  · constructor
    · intro h
      have : K (E ++ F) l (E.length + 1) ≠ 0 := fun e => (q2 e).1 h
      rw [K1] at this
      have := (oneOf_range this).1
      intro h4
      rw [h4] at this
      revert this; decide
    · intro h
      have h3 : K E l a ∈ ([1, 2, 3] : List Int) := by
        rcases K_four (E := E) (l := l) a with h5 | h5 | h5 | h5 | h5
        · exact absurd h5 hk
        · rw [h5]; decide
        · rw [h5]; decide
        · rw [h5]; decide
        · exact absurd h5 h
      have : K (E ++ F) l (E.length + 1) ≠ 0 := by rw [K1]; unfold oneOf; rw [if_pos h3]; exact hk
      rw [q1 this]
  · intro h
    have h3 : K E l a ∈ ([1, 2, 3] : List Int) := by
      rcases K_four (E := E) (l := l) a with h5 | h5 | h5 | h5 | h5
      · exact absurd h5 hk
      · rw [h5]; decide
      · rw [h5]; decide
      · rw [h5]; decide
      · exact absurd h5 h
    have e : K (E ++ F) l (E.length + 1) = K E l a := by rw [K1]; unfold oneOf; rw [if_pos h3]
    rw [q1 (by rw [e]; exact hk)]; exact e
  · rw [s1 (by rw [K2]; decide), K2]
/-- A choice. -/
theorem if_law {a b c : Nat} (ha : a < E.length) (hb : b < E.length) (hc : c < E.length) :
    (K E l a = 4 → K E l b = K E l c → K E l b ≠ 0 → kind (E ++ [⟨ifS, [], 0, a, b, c⟩]) (E.length : Nat) l = (K E l b, 0, 0)) ∧
    (K E l a ≠ 0 → K E l b ≠ 0 → K E l c ≠ 0 → ¬ (K E l a = 4 ∧ K E l b = K E l c) → kind (E ++ [⟨ifS, [], 0, a, b, c⟩]) (E.length : Nat) l = (0, E.length, 7)) ∧
    (K E l a = 0 ∨ K E l b = 0 ∨ K E l c = 0 → (kind (E ++ [⟨ifS, [], 0, a, b, c⟩]) (E.length : Nat) l).1 = 0 ∧ (kind (E ++ [⟨ifS, [], 0, a, b, c⟩]) (E.length : Nat) l).2.2 ≠ 0) := by
  obtain ⟨F, hF⟩ : ∃ F : List Xp, F = [⟨ifS, [], 0, a, b, c⟩] := ⟨_, rfl⟩
  rw [← hF]
  have hl : (E ++ F).length = E.length + 1 := by rw [List.length_append, hF]; rfl
  have hx : (E ++ F)[E.length + 0]? = some ⟨ifS, [], 0, a, b, c⟩ := by rw [get_last, hF]; rfl
  have K0 : K (E ++ F) l (E.length + 0) = if K E l a = 4 then common (K E l b) (K E l c) else 0 := K_if (by rw [hF]; rfl) ha hb hc
  rw [Nat.add_zero] at K0 hx
  obtain ⟨p1, p2, _⟩ := kind_iff (l := l) (E := E ++ F) (r := E.length) (by omega)
  refine ⟨fun h1 h2 h3 => ?_, fun h1 h2 h3 h4 => ?_, fun h => ?_⟩
  · have e : K (E ++ F) l E.length = K E l b := by rw [K0, if_pos h1]; unfold common; rw [if_pos h2]
    rw [p1 (by rw [e]; exact h3), e]
  · have e : K (E ++ F) l E.length = 0 := by
      rw [K0]
      by_cases h5 : K E l a = 4
      · rw [if_pos h5]; unfold common; rw [if_neg (fun k => h4 ⟨h5, k⟩)]
      · rw [if_neg h5]
    have hp : parts (⟨ifS, [], 0, a, b, c⟩ : Xp) = [(a : Int), (b : Int), (c : Int)] := rfl
    refine kind_root hx (fun p h => by rw [hp] at h; simp at h; omega) (fun p h => ?_) e (show ifS ≠ nameS by decide)
    rw [hp] at h
    simp only [List.mem_cons, List.not_mem_nil, or_false] at h
    rcases h with rfl | rfl | rfl
    · rw [Int.toNat_natCast, K_append F ha]; exact h1
    · rw [Int.toNat_natCast, K_append F hb]; exact h2
    · rw [Int.toNat_natCast, K_append F hc]; exact h3
  · have e : K (E ++ F) l E.length = 0 := by
      rw [K0]
      by_cases h5 : K E l a = 4
      · rw [if_pos h5]
        unfold common
        by_cases h6 : K E l b = K E l c
        · rw [if_pos h6]; omega
        · rw [if_neg h6]
      · rw [if_neg h5]
    obtain ⟨g1, g2⟩ := p2 e
    exact ⟨g2, g1⟩
/-- Two expressions, summed, held against one another, chosen from. -/
theorem twice_law {a b : Nat} (ha : a < E.length) (hb : b < E.length) {n : Int} (hn : n = (E.length : Int)) {F : List Xp} (hF : F = [⟨[43], [], 0, a, b, 0⟩, ⟨[60], [], 0, a, b, 0⟩, ⟨wholeS, [], 0, 0, 0, 0⟩, ⟨[60], [], 0, n + 2, n + 2, 0⟩, ⟨ifS, [], 0, n + 3, a, b⟩]) :
    K (E ++ F) l E.length = oneOf (common (K E l a) (K E l b)) [1, 3] ∧ K (E ++ F) l (E.length + 1) = flag (oneOf (common (K E l a) (K E l b)) [1, 2, 3]) ∧ K (E ++ F) l (E.length + 4) = common (K E l a) (K E l b) := by
  have K0 : K (E ++ F) l (E.length + 0) = oneOf (common (K E l a) (K E l b)) [1, 3] := K_two (op := [43]) (by rw [hF]; rfl) ha hb (by decide)
  have K1 : K (E ++ F) l (E.length + 1) = flag (oneOf (common (K E l a) (K E l b)) [1, 2, 3]) := K_two (op := [60]) (by rw [hF]; rfl) ha hb (by decide)
  have K2 : K (E ++ F) l (E.length + 2) = 3 := K_whole (by rw [hF]; rfl)
  refine ⟨K0, K1, ?_⟩
  -- the fourth row stands behind three more, the fifth behind four
  obtain ⟨F3, hF3⟩ : ∃ F3 : List Xp, F3 = [⟨[43], [], 0, a, b, 0⟩, ⟨[60], [], 0, a, b, 0⟩, ⟨wholeS, [], 0, 0, 0, 0⟩] := ⟨_, rfl⟩
  have e3 : E ++ F = (E ++ F3) ++ [⟨[60], [], 0, n + 2, n + 2, 0⟩, ⟨ifS, [], 0, n + 3, a, b⟩] := by rw [hF, hF3, List.append_assoc]; rfl
  have l3 : (E ++ F3).length = E.length + 3 := by rw [List.length_append, hF3]; rfl
  have K2' : K (E ++ F3) l (E.length + 2) = 3 := by
    have h := K2
    rw [e3, K_append (E := E ++ F3) _ (by rw [l3]; omega)] at h
    exact h
  have K3 : K (E ++ F) l (E.length + 3) = 4 := by
    rw [e3, ← l3]
    have := K_two (E := E ++ F3) (l := l) (F := [⟨[60], [], 0, n + 2, n + 2, 0⟩, ⟨ifS, [], 0, n + 3, a, b⟩]) (op := [60]) (nm := []) (v := 0) (c := 0) (a := E.length + 2) (b := E.length + 2) (i := 0) (by rw [hn]; rfl) (by omega) (by omega) (by decide)
    rw [Nat.add_zero] at this
    rw [this, K2']
    rfl
  obtain ⟨F4, hF4⟩ : ∃ F4 : List Xp, F4 = [⟨[43], [], 0, a, b, 0⟩, ⟨[60], [], 0, a, b, 0⟩, ⟨wholeS, [], 0, 0, 0, 0⟩, ⟨[60], [], 0, n + 2, n + 2, 0⟩] := ⟨_, rfl⟩
  have e4 : E ++ F = (E ++ F4) ++ [⟨ifS, [], 0, n + 3, a, b⟩] := by rw [hF, hF4, List.append_assoc]; rfl
  have l4 : (E ++ F4).length = E.length + 4 := by rw [List.length_append, hF4]; rfl
  have K3' : K (E ++ F4) l (E.length + 3) = 4 := by
    have h := K3
    rw [e4, K_append (E := E ++ F4) _ (by rw [l4]; omega)] at h
    exact h
  rw [e4, ← l4]
  have := K_if (E := E ++ F4) (l := l) (F := [⟨ifS, [], 0, n + 3, a, b⟩]) (nm := []) (v := 0) (a := E.length + 3) (b := a) (c := b) (i := 0) (by rw [hn]; rfl) (by omega) (by omega) (by omega)
  rw [Nat.add_zero] at this
  rw [this, K3', if_pos rfl, K_append F4 ha, K_append F4 hb]
end PCheck
