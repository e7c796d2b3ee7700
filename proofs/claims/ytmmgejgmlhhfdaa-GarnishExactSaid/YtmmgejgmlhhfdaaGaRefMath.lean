/-
  The orders of one priority alone are split as they are among all, the others' wants being 0: mathematics.
-/
import Derived.Test.YtmmgejgmlhhfdaaGaMath
namespace Go.Proofs.Ytmmgejgmlhhfdaa
namespace PGa
open PSplit

/-- The places of one priority. -/
def idx (l : List Ord) (p : Int) : Nat → List Nat
  | 0 => []
  | n + 1 => if pr l n = p then idx l p n ++ [n] else idx l p n
theorem idx_yes {l : List Ord} {p : Int} {n : Nat} (h : pr l n = p) : idx l p (n + 1) = idx l p n ++ [n] := by simp [idx, h]
theorem idx_no {l : List Ord} {p : Int} {n : Nat} (h : pr l n ≠ p) : idx l p (n + 1) = idx l p n := by simp [idx, h]
theorem idx_len_le (l : List Ord) (p : Int) (n : Nat) : (idx l p n).length ≤ n := by
  induction n with
  | zero => simp [idx]
  | succ n ih => by_cases h : pr l n = p
                 · rw [idx_yes h, List.length_append]; simp; omega
                 · rw [idx_no h]; omega
theorem idx_mem {l : List Ord} {p : Int} {n j : Nat} (h : j < (idx l p n).length) : (idx l p n).getD j 0 < n ∧ pr l ((idx l p n).getD j 0) = p := by
  induction n with
  | zero => simp [idx] at h
  | succ n ih =>
    by_cases e : pr l n = p
    · rw [idx_yes e] at h ⊢
      by_cases hj : j < (idx l p n).length
      · have := ih hj
        simp only [List.getD, List.getElem?_append_left hj] at this ⊢
        exact ⟨by omega, this.2⟩
      · have hj2 : j = (idx l p n).length := by rw [List.length_append] at h; simp at h; omega
        subst hj2
        simp [List.getD, e]
    · rw [idx_no e] at h ⊢
      exact ⟨by have := (ih h).1; omega, (ih h).2⟩
theorem idx_mono {l : List Ord} {p : Int} {n : Nat} : ∀ {i j : Nat}, i < j → j < (idx l p n).length → (idx l p n).getD i 0 < (idx l p n).getD j 0 := by
  induction n with
  | zero => intro i j _ h; simp [idx] at h
  | succ n ih =>
    intro i j hij hj
    by_cases e : pr l n = p
    · rw [idx_yes e] at hj ⊢
      by_cases hj2 : j < (idx l p n).length
      · have := ih hij hj2
        simpa [List.getD, List.getElem?_append_left hj2, List.getElem?_append_left (show i < (idx l p n).length by omega)] using this
      · have hj3 : j = (idx l p n).length := by rw [List.length_append] at hj; simp at hj; omega
        subst hj3
        have := (idx_mem (l := l) (p := p) (n := n) (j := i) hij).1
        simpa [List.getD, List.getElem?_append_left hij] using this
    · rw [idx_no e] at hj ⊢
      exact ih hij hj
theorem sum_idx {l : List Ord} {p : Int} (f : Nat → Nat) : ∀ n, (∀ j, j < n → pr l j ≠ p → f j = 0) → sumN f n = sumN (fun j => f ((idx l p n).getD j 0)) (idx l p n).length := by
  intro n
  induction n with
  | zero => intro _; rfl
  | succ n ih =>
    intro h
    have h1 := ih (fun j hj => h j (by omega))
    by_cases e : pr l n = p
    · rw [idx_yes e, List.length_append]
      show sumN f n + f n = sumN _ (idx l p n).length + f ((idx l p n ++ [n]).getD (idx l p n).length 0)
      rw [h1]
      congr 1
      · exact sumN_congr (fun j hj => by simp only [List.getD, List.getElem?_append_left hj])
      · simp [List.getD]
    · rw [idx_no e]
      show sumN f n + f n = _
      rw [h n (by omega) e, h1]
      rfl
/-- The place of i among those of its priority. -/
theorem idx_at {l : List Ord} {p : Int} {i : Nat} (hp : pr l i = p) : ∀ n, i < n → (idx l p i).length < (idx l p n).length ∧ (idx l p n).getD (idx l p i).length 0 = i := by
  intro n
  induction n with
  | zero => intro h; omega
  | succ n ih =>
    intro h
    by_cases e : i = n
    · subst e
      rw [idx_yes hp]
      simp [List.getD]
    · have h1 := ih (by omega)
      by_cases e2 : pr l n = p
      · rw [idx_yes e2, List.length_append]
        exact ⟨by omega, by simp only [List.getD, List.getElem?_append_left h1.1] at h1 ⊢; exact h1.2⟩
      · rw [idx_no e2]; exact h1
/-- One without a remainder has none of what is left over. -/
theorem rank_none {T S : Nat} {w : Nat → Nat} {n i : Nat} (hS : sumN w n = S) (h0 : 0 < S) (h : rem T S w i = 0) : ¬ rank (rem T S w) n i < left T S w n := by
  have h1 := left_le (T := T) hS h0
  have h2 : cnt (fun j => decide (0 < rem T S w j)) n ≤ rank (rem T S w) n i := cnt_mono (fun j _ hj => by
    simp at hj
    unfold before
    simp [h, hj])
  omega
theorem part_idx {l : List Ord} {p : Int} {T n i : Nat} (hi : i < n) (hp : pr l i = p) (h0 : 0 < sumN (grp l p) n) :
    part T (sumN (grp l p) n) (grp l p) n i = part T (sumN (grp l p) n) (fun j => wn l ((idx l p n).getD j 0)) (idx l p n).length (idx l p i).length ∧ sumN (fun j => wn l ((idx l p n).getD j 0)) (idx l p n).length = sumN (grp l p) n := by
  obtain ⟨hme, hat⟩ := idx_at hp n hi
  have hw : ∀ j, j < (idx l p n).length → grp l p ((idx l p n).getD j 0) = wn l ((idx l p n).getD j 0) := fun j hj => by
    unfold grp; rw [if_pos (idx_mem hj).2]
  have hsum : sumN (grp l p) n = sumN (fun j => wn l ((idx l p n).getD j 0)) (idx l p n).length := by
    rw [sum_idx (grp l p) n (fun j _ hj => by unfold grp; rw [if_neg hj])]
    exact sumN_congr hw
  refine ⟨?_, hsum.symm⟩
  obtain ⟨S, hS⟩ : ∃ S, sumN (grp l p) n = S := ⟨_, rfl⟩
  rw [hS] at hsum h0 ⊢
  have hgi : grp l p i = wn l i := by unfold grp; rw [if_pos hp]
  have hq : sumN (q T S (grp l p)) n = sumN (q T S (fun j => wn l ((idx l p n).getD j 0))) (idx l p n).length := by
    rw [sum_idx (p := p) (l := l) (q T S (grp l p)) n (fun j _ hj => by unfold q grp; rw [if_neg hj]; simp)]
    exact sumN_congr (fun j hj => by unfold q; rw [hw j hj])
  have hleft : left T S (grp l p) n = left T S (fun j => wn l ((idx l p n).getD j 0)) (idx l p n).length := by unfold left; rw [hq]
  have hr : rem T S (grp l p) i = rem T S (fun j => wn l ((idx l p n).getD j 0)) (idx l p i).length := by
    show T * grp l p i % S = T * wn l ((idx l p n).getD (idx l p i).length 0) % S
    rw [hat, hgi]
  have hq1 : q T S (grp l p) i = q T S (fun j => wn l ((idx l p n).getD j 0)) (idx l p i).length := by
    show T * grp l p i / S = T * wn l ((idx l p n).getD (idx l p i).length 0) / S
    rw [hat, hgi]
  unfold part
  rw [hq1]
  congr 1
  by_cases hz : rem T S (grp l p) i = 0
  · rw [if_neg (rank_none hS h0 hz), if_neg (rank_none hsum.symm h0 (by rw [← hr]; exact hz))]
  · have hrank : rank (rem T S (grp l p)) n i = rank (rem T S (fun j => wn l ((idx l p n).getD j 0))) (idx l p n).length (idx l p i).length := by
      unfold rank cnt
      rw [sum_idx (p := p) (l := l) _ n (fun j _ hj => by
        have hj0 : rem T S (grp l p) j = 0 := by unfold rem grp; rw [if_neg hj]; simp
        have : before (rem T S (grp l p)) j i = false := by
          unfold before
          rw [hj0]
          simp; omega
        show (if before (rem T S (grp l p)) j i = true then 1 else 0) = 0
        rw [this]; rfl)]
      refine sumN_congr (fun j hj => ?_)
      have e1 : rem T S (grp l p) ((idx l p n).getD j 0) = rem T S (fun j => wn l ((idx l p n).getD j 0)) j := by unfold rem; rw [hw j hj]
      have e2 : decide ((idx l p n).getD j 0 < i) = decide (j < (idx l p i).length) := by
        by_cases h1 : j < (idx l p i).length
        · have := idx_mono h1 hme
          rw [hat] at this
          rw [decide_eq_true this, decide_eq_true h1]
        · have : ¬ (idx l p n).getD j 0 < i := by
            by_cases e : j = (idx l p i).length
            · rw [e, hat]; omega
            · have := idx_mono (show (idx l p i).length < j by omega) hj
              rw [hat] at this; omega
          rw [decide_eq_false this, decide_eq_false h1]
      have : before (rem T S (grp l p)) ((idx l p n).getD j 0) i = before (rem T S (fun j => wn l ((idx l p n).getD j 0))) j (idx l p i).length := by
        unfold before
        rw [e1, e2, hr]
      show (if before (rem T S (grp l p)) ((idx l p n).getD j 0) i = true then 1 else 0) = _
      rw [this]
    rw [hrank, hleft]
end PGa
end Go.Proofs.Ytmmgejgmlhhfdaa
