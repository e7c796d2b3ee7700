/-
  Lists of numbers as weights: twice as great, all alike, one more of 0, all but one 0. Plain facts.
-/
import Derived.Test.YtijjagnlfhiogaaLaw04Even
namespace PSplit
open Go.Proofs.Ytijjagnlfhiogaa
/-- f 0, .., f (k - 1). -/
def natL (f : Nat → Nat) (k : Nat) : List Int := (List.range k).map (fun i => ((f i : Nat) : Int))
theorem natL_len (f : Nat → Nat) (k : Nat) : (natL f k).length = k := by simp [natL]
theorem natL_get {f : Nat → Nat} {k i : Nat} (h : i < k) : (natL f k).getD i 0 = ((f i : Nat) : Int) := by simp [natL, List.getD, h]
theorem natL_next (f : Nat → Nat) (k : Nat) : natL f k ++ [((f k : Nat) : Int)] = natL f (k + 1) := by simp [natL, List.range_succ]
theorem sumFrom_nat {f : Nat → Nat} : ∀ {k : Nat}, sumN f k ≤ 9223372036854775807 → sumFrom 0 (natL f k) = some ((sumN f k : Nat) : Int) := by
  intro k
  induction k with
  | zero => intro _; rfl
  | succ k ih =>
    intro h
    simp only [sumN] at h
    rw [← natL_next, sumFrom_append, ih (by omega)]
    show sumFrom ((sumN f k : Nat) : Int) [((f k : Nat) : Int)] = _
    simp only [sumFrom]
    rw [if_pos (by unfold Adds; omega)]
    simp only [sumN]
    rw [Int.natCast_add]
/-- What Split answers by such weights. -/
theorem nat_split (T : Nat) {g : Nat → Nat} {n : Nat} (hn : n ≤ 60) (hs : sumN g n ≤ 9223372036854775807) :
    errOf (T : Int) (natL g n) = (if sumN g n = 0 then 4 else 0) ∧ listOf (T : Int) (natL g n) = (if sumN g n = 0 then [] else (List.range n).map (fun i => ((part T (sumN g n) g n i : Nat) : Int))) := by
  have he : errOf (T : Int) (natL g n) = (if sumN g n = 0 then 4 else 0) := by
    unfold errOf
    rw [natL_len, if_neg (by omega), if_neg (by
      rintro (h | ⟨i, hi, h⟩)
      · omega
      · rw [natL_get hi] at h; omega), sumFrom_nat hs]
    simp only
    by_cases h : sumN g n = 0
    · rw [if_pos h, if_pos (by omega)]
    · rw [if_neg h, if_neg (by omega)]
  refine ⟨he, ?_⟩
  unfold listOf
  rw [he]
  by_cases h : sumN g n = 0
  · rw [if_pos h, if_pos h, if_neg (by decide)]
  · rw [if_neg h, if_neg h, if_pos rfl]
    have hw : ∀ j, j < n → wOf (natL g n) j = g j := fun j hj => by unfold wOf; rw [natL_get hj]; omega
    have hS : sumN (wOf (natL g n)) n = sumN g n := sumN_congr hw
    unfold partsOf pL
    rw [natL_len, hS]
    apply List.map_congr_left
    intro i hi
    rw [List.mem_range] at hi
    rw [part_congr hi hw, Int.toNat_natCast]
theorem sum_small {g : Nat → Nat} {n : Nat} (hn : n ≤ 60) (hg : ∀ i, i < n → g i ≤ 2199023255552) : sumN g n ≤ 9223372036854775807 := by
  have h1 : sumN g n ≤ sumN (fun _ => 2199023255552) n := sumN_le hg
  rw [sumN_const] at h1
  have : n * 2199023255552 ≤ 60 * 2199023255552 := Nat.mul_le_mul_right _ hn
  omega
theorem twice_same (T : Nat) {g : Nat → Nat} {n : Nat} (hn : n ≤ 60) (hg : ∀ i, i < n → g i < 1099511627776) :
    errOf (T : Int) (natL (fun i => 2 * g i) n) = errOf (T : Int) (natL g n) ∧ listOf (T : Int) (natL (fun i => 2 * g i) n) = listOf (T : Int) (natL g n) := by
  have h1 := nat_split T (g := g) hn (sum_small hn (fun i hi => by have := hg i hi; omega))
  have h2 := nat_split T (g := fun i => 2 * g i) hn (sum_small hn (fun i hi => by have := hg i hi; show 2 * g i ≤ _; omega))
  rw [h1.1, h1.2, h2.1, h2.2, sumN_mul]
  by_cases h : sumN g n = 0
  · rw [if_pos h, if_pos h, if_pos (by omega), if_pos (by omega)]; exact ⟨rfl, rfl⟩
  · rw [if_neg h, if_neg h, if_neg (by omega), if_neg (by omega)]
    refine ⟨rfl, ?_⟩
    apply List.map_congr_left
    intro i _
    rw [part_twice]
/-- Weights that are all 1. -/
theorem ones_nat (n : Nat) : natL (fun _ => 1) n = List.replicate n (1 : Int) := by
  induction n with
  | zero => rfl
  | succ n ih => rw [← natL_next, ih, List.replicate_succ']; rfl
theorem ones_more (T T' n : Nat) (hn : n ≤ 60) (hT : T ≤ T') : errOf (T : Int) (natL (fun _ => 1) n) = errOf (T' : Int) (natL (fun _ => 1) n) ∧
    (listOf (T : Int) (natL (fun _ => 1) n)).length = (listOf (T' : Int) (natL (fun _ => 1) n)).length ∧ (listOf (T : Int) (natL (fun _ => 1) n)).length ≤ n ∧
    ∀ i, i < (listOf (T : Int) (natL (fun _ => 1) n)).length → (listOf (T : Int) (natL (fun _ => 1) n)).getD i 0 ≤ (listOf (T' : Int) (natL (fun _ => 1) n)).getD i 0 := by
  by_cases h0 : n = 0
  · subst h0
    have a := nat_split T (g := fun _ => 1) (n := 0) (by omega) (by decide)
    have b := nat_split T' (g := fun _ => 1) (n := 0) (by omega) (by decide)
    rw [a.1, a.2, b.1, b.2]
    exact ⟨rfl, rfl, Nat.le_refl _, fun i hi => by cases hi⟩
  · rw [ones_nat]
    have a := alike (T := T) (n := n) (v := 1) (by omega) hn (by omega) (by omega)
    have b := alike (T := T') (n := n) (v := 1) (by omega) hn (by omega) (by omega)
    rw [show ((1 : Nat) : Int) = 1 from rfl] at a b
    rw [a.1, a.2, b.1, b.2, evenL_len, evenL_len]
    refine ⟨rfl, rfl, Nat.le_refl _, fun i hi => ?_⟩
    rw [evenL_get hi, evenL_get hi]
    have : (T + (n - 1 - i)) / n ≤ (T' + (n - 1 - i)) / n := Nat.div_le_div_right (by omega)
    omega
/-- All weights but one 0. -/
theorem one_all (T : Nat) {n k : Nat} (hn : n ≤ 60) (hk : k < n) : errOf (T : Int) (natL (fun i => if i = k then 7 else 0) n) = 0 ∧ (listOf (T : Int) (natL (fun i => if i = k then 7 else 0) n)).length = n ∧ (listOf (T : Int) (natL (fun i => if i = k then 7 else 0) n)).getD k 0 = (T : Int) := by
  obtain ⟨h1, h2⟩ := part_one (T := T) (v := 7) (w := fun i => if i = k then 7 else 0) (n := n) (fun j _ => rfl) (by omega) hk
  have a := nat_split T (g := fun i => if i = k then 7 else 0) hn (by rw [h1]; omega)
  rw [h1] at a
  rw [a.1, a.2]
  refine ⟨rfl, by simp, ?_⟩
  simp only [if_neg (show ¬ 7 = 0 by decide)]
  have hg : ((List.range n).map (fun i => ((part T 7 (fun i => if i = k then 7 else 0) n i : Nat) : Int))).getD k 0 = ((part T 7 (fun i => if i = k then 7 else 0) n k : Nat) : Int) := by simp [List.getD, hk]
  rw [hg, h2]
/-- One more weight, of 0. -/
theorem more_same (T : Int) {ws : List Int} (hn : ws.length ≤ 59) : errOf T (ws ++ [0]) = errOf T ws ∧ (errOf T ws = 0 → listOf T (ws ++ [0]) = listOf T ws ++ [0] ∧ (listOf T ws).length = ws.length) := by
  have hl : (ws ++ [0]).length = ws.length + 1 := by simp
  have hget : ∀ i, i < ws.length → (ws ++ [0]).getD i 0 = ws.getD i 0 := fun i hi => by simp [List.getD, List.getElem?_append_left hi]
  have hlast : (ws ++ [0]).getD ws.length 0 = 0 := by simp [List.getD]
  have hneg : (T < 0 ∨ ∃ i, i < (ws ++ [0]).length ∧ (ws ++ [0]).getD i 0 < 0) ↔ (T < 0 ∨ ∃ i, i < ws.length ∧ ws.getD i 0 < 0) := by
    constructor
    · rintro (h | ⟨i, hi, h⟩)
      · exact .inl h
      · rw [hl] at hi
        by_cases e : i = ws.length
        · subst e; rw [hlast] at h; omega
        · exact .inr ⟨i, by omega, by rw [← hget i (by omega)]; exact h⟩
    · rintro (h | ⟨i, hi, h⟩)
      · exact .inl h
      · exact .inr ⟨i, by omega, by rw [hget i hi]; exact h⟩
  have hsum : sumFrom 0 (ws ++ [0]) = sumFrom 0 ws := by
    rw [sumFrom_append]
    cases h : sumFrom 0 ws with
    | none => rfl
    | some s =>
      have hr := sumFrom_range (by omega) (by omega) h
      show sumFrom s [0] = some s
      simp only [sumFrom]
      rw [if_pos (by unfold Adds; omega), Int.add_zero]
  have he : errOf T (ws ++ [0]) = errOf T ws := by
    have a1 : ¬ 60 < (ws ++ [0]).length := by omega
    have a2 : ¬ 60 < ws.length := by omega
    unfold errOf
    rw [if_neg a1, if_neg a2, hsum]
    by_cases h : T < 0 ∨ ∃ i, i < ws.length ∧ ws.getD i 0 < 0
    · rw [if_pos h, if_pos (hneg.2 h)]
    · rw [if_neg h, if_neg (fun k => h (hneg.1 k))]
  refine ⟨he, fun hz => ?_⟩
  obtain ⟨e1, e2, e3, e4, e5, e6⟩ := errOf_zero hz
  have hw : ∀ j, j < ws.length → wOf (ws ++ [0]) j = wOf ws j := fun j hj => by unfold wOf; rw [hget j hj]
  have hw0 : wOf (ws ++ [0]) ws.length = 0 := by unfold wOf; rw [hlast]; rfl
  have hS : sumN (wOf (ws ++ [0])) (ws.length + 1) = sumN (wOf ws) ws.length := by simp only [sumN]; rw [hw0, sumN_congr hw]; rfl
  have hlst : listOf T ws = partsOf T ws := by unfold listOf; rw [if_pos hz]
  refine ⟨?_, by rw [hlst]; unfold partsOf; rw [pL_len]⟩
  rw [hlst]
  unfold listOf
  rw [he, if_pos hz]
  unfold partsOf
  rw [hl, hS, ← pL_next, part_zero hS e5 hw0]
  congr 1
  unfold pL
  apply List.map_congr_left
  intro i hi
  rw [List.mem_range] at hi
  rw [part_more hw0 hi, part_congr hi hw]
end PSplit
