/-
  What a token of each kind is: amounts, rates, whole numbers. Plain facts; no program is named here.
-/
import Derived.Test.YtkmehhhgdeiaeaaDoorPM
import Derived.Lib.Atoi
namespace PLex
theorem Lone.run {k : Nat} {u : List UInt8} (h : Lone kindOf k u) (hk : k = 2 ∨ k = 3 ∨ k = 4) : kindOf u = k := by
  obtain ⟨c, r, rfl, h1, _, h4⟩ := h
  have e1 : (step kindOf (c :: r)).1 = k := by rw [h1]
  have e2 : (step kindOf (c :: r)).2 = (c :: r).length := by rw [h1]
  simp only [step] at e1 e2
  by_cases g1 : c = 32 ∨ c = 10
  · rw [if_pos g1] at e1; simp only [] at e1; omega
  rw [if_neg g1, if_neg h4] at e1 e2
  by_cases g2 : isLet c = true
  · rw [if_pos g2] at e1
    simp only [] at e1
    split at e1 <;> omega
  rw [if_neg g2] at e1 e2
  by_cases g4 : isDig c = true
  · rw [if_pos g4] at e1 e2
    simp only [List.length_cons] at e1 e2
    have e3 : r.takeWhile isRun = r := by
      have := take_takeWhile (p := isRun) r
      rw [show (r.takeWhile isRun).length = r.length by omega, List.take_length] at this
      exact this.symm
    rw [e3] at e1; exact e1
  rw [if_neg g4] at e1
  by_cases g5 : isSgn c = true
  · rw [if_pos g5] at e1; simp only [] at e1; omega
  · rw [if_neg g5] at e1; simp only [] at e1; omega
theorem Lone.amount {u : List UInt8} (h : Lone kindOf 3 u) : ∃ n, PMoney.parse u = some n := by
  have h1 := h.run (.inr (.inl rfl))
  unfold kindOf at h1
  by_cases g : (PMoney.parse u).isSome = true
  · exact Option.isSome_iff_exists.1 g
  · rw [if_neg g] at h1; (repeat' split at h1) <;> omega
theorem Lone.percent {u : List UInt8} (h : Lone kindOf 4 u) : ∃ n, PRate.parse u = some n := by
  have h1 := h.run (.inr (.inr rfl))
  unfold kindOf at h1
  by_cases g : (PRate.parse u).isSome = true
  · exact Option.isSome_iff_exists.1 g
  · rw [if_neg g] at h1; (repeat' split at h1) <;> omega
theorem Lone.whole {u : List UInt8} (h : Lone kindOf 2 u) : PLex.whole u = true := by
  have h1 := h.run (.inl rfl)
  unfold kindOf at h1
  by_cases g : PLex.whole u = true
  · exact g
  · rw [if_neg g] at h1; (repeat' split at h1) <;> omega
theorem whole_digs {u : List UInt8} (h : PLex.whole u = true) : (∀ x ∈ u, 48 ≤ x.toNat ∧ x.toNat ≤ 57) ∧ u.length ≤ 9 := by
  unfold PLex.whole at h
  simp only [Bool.and_eq_true, List.all_eq_true, decide_eq_true_eq] at h
  refine ⟨fun x hx => ?_, by omega⟩
  have := h.1 x hx
  unfold isDig at this
  simpa using this
end PLex
namespace PTree
theorem numOf_next {u : List UInt8} {t : Nat} (h : t < u.length) : numOf (u.take (t + 1)) = 10 * numOf (u.take t) + (u[t].toNat - 48) := by
  rw [List.take_succ_eq_append_getElem h, numOf, List.foldl_append]; rfl
theorem numOf_less {u : List UInt8} (hd : ∀ x ∈ u, 48 ≤ x.toNat ∧ x.toNat ≤ 57) : ∀ t, t ≤ u.length → numOf (u.take t) + 1 ≤ 10 ^ t
  | 0, _ => by simp [numOf]
  | t + 1, h => by
    have ih := numOf_less hd t (by omega)
    have h1 := hd u[t] (List.getElem_mem (by omega))
    rw [numOf_next (by omega), Nat.pow_succ]; omega
end PTree
namespace PTree
theorem decFrom_foldl {l : List UInt8} (hd : ∀ x ∈ l, 48 ≤ x.toNat ∧ x.toNat ≤ 57) : ∀ a, Go.Lib.decFrom a l = some (l.foldl (fun n c => 10 * n + (c.toNat - 48)) a) := by
  induction l with
  | nil => intro a; rfl
  | cons b r ih =>
    intro a
    have hb := hd b (List.mem_cons_self ..)
    simp only [Go.Lib.decFrom, Go.Lib.digitVal, if_pos hb, List.foldl_cons]
    rw [ih (fun x hx => hd x (List.mem_cons_of_mem _ hx)), Nat.mul_comm a 10]
theorem atoi_num {l : List UInt8} (h : PLex.whole l = true) : Go.Lib.atoi l = some (numOf l : Nat) := by
  obtain ⟨hd, hl⟩ := PLex.whole_digs h
  have h0 : l ≠ [] := by rintro rfl; simp [PLex.whole] at h
  cases l with
  | nil => exact absurd rfl h0
  | cons b r =>
    have hb := hd b (List.mem_cons_self ..)
    have n1 : (b == 45) = false := by rw [beq_eq_false_iff_ne]; rintro rfl; simp at hb
    have n2 : (b == 43) = false := by rw [beq_eq_false_iff_ne]; rintro rfl; simp at hb
    simp only [Go.Lib.atoi, n1, n2, Bool.false_eq_true, if_false, Go.Lib.decNat, List.isEmpty_cons]
    rw [decFrom_foldl hd]; rfl
theorem num_small {l : List UInt8} (h : PLex.whole l = true) : numOf l ≤ 999999999 := by
  obtain ⟨hd, hl⟩ := PLex.whole_digs h
  have h1 := numOf_less hd l.length (Nat.le_refl _)
  rw [List.take_length] at h1
  have h2 := Nat.pow_le_pow_right (n := 10) (by decide) hl
  have h3 : (10 : Nat) ^ 9 = 1000000000 := rfl
  omega
end PTree
