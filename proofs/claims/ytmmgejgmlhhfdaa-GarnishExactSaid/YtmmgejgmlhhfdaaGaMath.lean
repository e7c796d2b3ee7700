/-
  Orders on what is paid: what each is paid of what there is: mathematics.
-/
import Derived.Test.YtmmgejgmlhhfdaaSplitMath
namespace Go.Proofs.Ytmmgejgmlhhfdaa
namespace PGa
open PSplit

/-- An order: its creditor, its priority, what is claimed, what is left of it. -/
structure Ord where
  c : Int
  p : Int
  cl : Int
  ba : Int
def o0 : Ord := ⟨0, 0, 0, 0⟩
def In (o : Ord) : Prop := (-9223372036854775808 ≤ o.c ∧ o.c ≤ 9223372036854775807) ∧ (-9223372036854775808 ≤ o.p ∧ o.p ≤ 9223372036854775807) ∧ (-9223372036854775808 ≤ o.cl ∧ o.cl ≤ 9223372036854775807) ∧ -9223372036854775808 ≤ o.ba ∧ o.ba ≤ 9223372036854775807
def pr (l : List Ord) (i : Nat) : Int := (l.getD i o0).p
def wn (l : List Ord) (i : Nat) : Nat := (min (l.getD i o0).cl (l.getD i o0).ba).toNat
/-- The wants of one priority, each at its place. -/
def grp (l : List Ord) (p : Int) (k : Nat) : Nat := if pr l k = p then wn l k else 0
/-- .. together. -/
def atP (l : List Ord) (p : Int) : Nat := sumN (grp l p) l.length
/-- The wants of all priorities ahead. -/
def below (l : List Ord) (p : Int) : Nat := sumN (fun k => if pr l k < p then wn l k else 0) l.length
def all (l : List Ord) : Nat := sumN (wn l) l.length
/-- What the order at i is paid of T. -/
def served (T : Nat) (l : List Ord) (i : Nat) : Nat := if atP l (pr l i) ≤ T - below l (pr l i) then wn l i else part (T - below l (pr l i)) (atP l (pr l i)) (grp l (pr l i)) l.length i
/-- What those of one priority are paid of what is left. -/
def share (R : Nat) (l : List Ord) (p : Int) (i : Nat) : Nat := if atP l p ≤ R then grp l p i else part R (atP l p) (grp l p) l.length i
theorem served_share (T : Nat) (l : List Ord) (i : Nat) : served T l i = share (T - below l (pr l i)) l (pr l i) i := by
  unfold served share
  split
  · simp [grp]
  · rfl
/-- One of another priority has no share. -/
theorem share_none {R : Nat} {l : List Ord} {p : Int} {i : Nat} (h : pr l i ≠ p) : share R l p i = 0 := by
  unfold share
  have g : grp l p i = 0 := by simp [grp, h]
  split
  · exact g
  · exact part_zero rfl (by omega) g
theorem share_sum (R : Nat) (l : List Ord) (p : Int) : sumN (share R l p) l.length = min R (atP l p) := by
  by_cases h : atP l p ≤ R
  · rw [sumN_congr (g := grp l p) (fun i _ => by unfold share; rw [if_pos h])]
    show atP l p = _
    omega
  · rw [sumN_congr (g := part R (atP l p) (grp l p) l.length) (fun i _ => by unfold share; rw [if_neg h])]
    rw [parts_whole (S := atP l p) (w := grp l p) (n := l.length) rfl (by omega)]
    omega
theorem below_next {l : List Ord} {p q : Int} (hpq : p < q) (h : ∀ i, i < l.length → pr l i < q → pr l i ≤ p) : below l q = below l p + atP l p := by
  unfold below atP
  rw [← sumN_add]
  refine sumN_congr (fun i hi => ?_)
  unfold grp
  by_cases h1 : pr l i < p
  · rw [if_pos (by omega), if_pos h1, if_neg (by omega)]; rfl
  · by_cases h2 : pr l i = p
    · rw [if_pos (by omega), if_neg h1, if_pos h2]; omega
    · rw [if_neg (fun h3 => by have := h i hi h3; omega), if_neg h1, if_neg h2]
theorem below_first {l : List Ord} {p : Int} (h : ∀ i, i < l.length → p ≤ pr l i) : below l p = 0 := by
  unfold below
  rw [sumN_congr (g := fun _ => 0) (fun i hi => by rw [if_neg (by have := h i hi; omega)]), sumN_const]; omega
theorem below_last {l : List Ord} {p : Int} (h : ∀ i, i < l.length → pr l i ≤ p) : all l = below l p + atP l p := by
  unfold below atP all
  rw [← sumN_add]
  refine sumN_congr (fun i hi => ?_)
  unfold grp
  by_cases h2 : pr l i = p
  · rw [if_neg (by omega), if_pos h2]; omega
  · rw [if_pos (by have := h i hi; omega), if_neg h2]; rfl
theorem part_le_own {T S : Nat} {w : Nat → Nat} {n i : Nat} (hS : sumN w n = S) (h0 : T < S) : part T S w n i ≤ w i := by
  by_cases hw : w i = 0
  · rw [part_zero hS (by omega) hw]; omega
  · unfold part
    have h1 : q T S w i < w i := by
      unfold q
      exact (Nat.div_lt_iff_lt_mul (by omega)).2 (by rw [Nat.mul_comm (w i)]; exact (Nat.mul_lt_mul_right (by omega)).2 h0)
    split <;> omega
/-- None is paid more than its want. -/
theorem served_le (T : Nat) (l : List Ord) (i : Nat) : served T l i ≤ wn l i := by
  unfold served
  split
  · exact Nat.le_refl _
  · have := part_le_own (T := T - below l (pr l i)) (w := grp l (pr l i)) (n := l.length) (i := i) rfl (by show _ < atP l (pr l i); omega)
    simp [grp] at this
    exact this
theorem max_below (f : Nat → Int) (p : Int) : ∀ n, (∀ k, k < n → ¬ f k < p) ∨ ∃ j, j < n ∧ f j < p ∧ ∀ k, k < n → f k < p → f k ≤ f j
  | 0 => .inl (fun k h => by omega)
  | n + 1 => by
    by_cases hn : f n < p
    · rcases max_below f p n with h | ⟨j, h1, h2, h3⟩
      · exact .inr ⟨n, by omega, hn, fun k hk hkp => by
          by_cases e : k = n
          · subst e; omega
          · exact absurd hkp (h k (by omega))⟩
      · by_cases hc : f j < f n
        · exact .inr ⟨n, by omega, hn, fun k hk hkp => by
            by_cases e : k = n
            · subst e; omega
            · have := h3 k (by omega) hkp; omega⟩
        · exact .inr ⟨j, by omega, h2, fun k hk hkp => by
            by_cases e : k = n
            · subst e; omega
            · exact h3 k (by omega) hkp⟩
    · rcases max_below f p n with h | ⟨j, h1, h2, h3⟩
      · exact .inl (fun k hk => by
          by_cases e : k = n
          · subst e; exact hn
          · exact h k (by omega))
      · exact .inr ⟨j, by omega, h2, fun k hk hkp => by
          by_cases e : k = n
          · subst e; exact absurd hkp hn
          · exact h3 k (by omega) hkp⟩
/-- What those ahead of a priority are paid together. -/
theorem served_below (T : Nat) (l : List Ord) : ∀ (m : Nat) (p : Int), cnt (fun i => decide (pr l i < p)) l.length = m → sumN (fun i => if pr l i < p then served T l i else 0) l.length = min T (below l p) := by
  intro m
  induction m using Nat.strongRecOn with
  | ind m ih =>
    intro p hm
    rcases max_below (pr l) p l.length with h0 | ⟨j, hj, hjp, hmax⟩
    · have e1 : below l p = 0 := below_first (fun i hi => by have := h0 i hi; omega)
      rw [e1, sumN_congr (g := fun _ => 0) (fun i hi => by rw [if_neg (h0 i hi)]), sumN_const]
      omega
    · have hlt : cnt (fun i => decide (pr l i < pr l j)) l.length < m := by
        rw [← hm]
        exact cnt_lt (fun i _ h => by simp at h ⊢; omega) hj (by simpa using hjp) (by simp)
      have h1 := ih _ hlt (pr l j) rfl
      have h2 := below_next hjp hmax
      rw [sumN_congr (g := fun i => (if pr l i < pr l j then served T l i else 0) + share (T - below l (pr l j)) l (pr l j) i) (fun i hi => by
        by_cases e1 : pr l i < pr l j
        · rw [if_pos (by omega), if_pos e1, share_none (by omega)]; rfl
        · by_cases e2 : pr l i = pr l j
          · rw [if_pos (by omega), if_neg e1, served_share, e2]; omega
          · rw [if_neg (fun h => by have := hmax i hi h; omega), if_neg e1, share_none e2]), sumN_add, h1, share_sum, h2]
      omega
/-- What all are paid together. -/
theorem served_sum (T : Nat) (l : List Ord) : sumN (served T l) l.length = min T (all l) := by
  obtain ⟨p, hp⟩ : ∃ p : Int, ∀ i, i < l.length → pr l i < p := by
    have : ∀ n, ∃ p : Int, ∀ i, i < n → pr l i < p := by
      intro n
      induction n with
      | zero => exact ⟨0, fun i h => by omega⟩
      | succ n ih =>
        obtain ⟨p, h⟩ := ih
        refine ⟨max p (pr l n + 1), fun i hi => ?_⟩
        by_cases e : i = n
        · subst e; omega
        · have := h i (by omega); omega
    exact this l.length
  have h := served_below T l _ p rfl
  rw [sumN_congr (g := served T l) (fun i hi => by rw [if_pos (hp i hi)])] at h
  rw [h]
  congr 1
  unfold below all
  exact sumN_congr (fun i hi => by rw [if_pos (hp i hi)])
/-- A later one is paid only if all ahead have their wants. -/
theorem served_ahead {T : Nat} {l : List Ord} {i j : Nat} (hp : pr l j < pr l i) (h0 : 0 < served T l i) : served T l j = wn l j := by
  have hb : below l (pr l i) < T := by
    have h1 : 0 < T - below l (pr l i) := by
      unfold served at h0
      split at h0
      · rename_i h
        by_cases hz : T - below l (pr l i) = 0
        · rw [hz] at h
          have h2 : wn l i ≤ atP l (pr l i) := by
            by_cases hi : i < l.length
            · have := le_sumN (f := grp l (pr l i)) hi
              simp [grp] at this
              exact this
            · have : wn l i = 0 := by unfold wn; rw [List.getD, List.getElem?_eq_none (by omega)]; rfl
              omega
          omega
        · omega
      · by_cases hz : T - below l (pr l i) = 0
        · rename_i h
          rw [hz] at h0
          by_cases hi : i < l.length
          · have := part_le (T := 0) (S := atP l (pr l i)) (w := grp l (pr l i)) (n := l.length) (i := i) rfl (by omega) hi
            omega
          · have g : grp l (pr l i) i = 0 := by
              have : wn l i = 0 := by unfold wn; rw [List.getD, List.getElem?_eq_none (by omega)]; rfl
              simp [grp, this]
            rw [part_zero (S := atP l (pr l i)) (w := grp l (pr l i)) (n := l.length) rfl (by omega) g] at h0
            omega
        · omega
    omega
  have hle : below l (pr l j) + atP l (pr l j) ≤ below l (pr l i) := by
    unfold below atP
    rw [← sumN_add]
    refine sumN_le (fun k _ => ?_)
    unfold grp
    by_cases e1 : pr l k < pr l j
    · rw [if_pos e1, if_neg (by omega), if_pos (by omega)]; omega
    · rw [if_neg e1]
      by_cases e2 : pr l k = pr l j
      · rw [if_pos e2, if_pos (by omega)]; omega
      · rw [if_neg e2]; omega
  unfold served
  rw [if_pos (by omega)]
/-- One that is alone in its priority. -/
theorem served_alone {T : Nat} {l : List Ord} {i : Nat} (hi : i < l.length) (h : ∀ j, j < l.length → j ≠ i → pr l j ≠ pr l i) : served T l i = min (wn l i) (T - below l (pr l i)) := by
  have e : ∀ j, j < l.length → grp l (pr l i) j = if j = i then wn l i else 0 := fun j hj => by
    unfold grp
    by_cases h1 : j = i
    · subst h1; simp
    · rw [if_neg (h j hj h1), if_neg h1]
  have ha : atP l (pr l i) = wn l i := by
    unfold atP
    rw [sumN_congr e]
    by_cases hw : 0 < wn l i
    · exact (part_one (T := 0) (v := wn l i) (n := l.length) (k := i) (w := fun j => if j = i then wn l i else 0) (fun j _ => rfl) hw hi).1
    · rw [sumN_congr (g := fun _ => 0) (fun j _ => by split <;> omega), sumN_const]; omega
  unfold served
  rw [ha]
  split
  · omega
  · have hw : 0 < wn l i := by omega
    rw [(part_one (T := T - below l (pr l i)) e hw hi).2]
    omega
end PGa
end Go.Proofs.Ytmmgejgmlhhfdaa
