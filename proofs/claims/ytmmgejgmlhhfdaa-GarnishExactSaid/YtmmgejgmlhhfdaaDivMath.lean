/-
  Long division, digit by digit, the highest first: plain facts. No program is named here.
-/
import Derived.Test.YtmmgejgmlhhfdaaDigsMath
namespace PDigs

theorem digs_at (n j : Nat) : (digs n).getD j 0 = ((n / 10 ^ j % 10 : Nat) : Int) := by
  induction j generalizing n with
  | zero =>
    by_cases h : n = 0
    · subst h; rw [digs_zero]; rfl
    · rw [digs_pos h]; simp [List.getD]
  | succ j ih =>
    by_cases h : n = 0
    · subst h; rw [digs_zero]; simp [List.getD]
    · rw [digs_pos h]
      have e : (((n % 10 : Nat) : Int) :: digs (n / 10)).getD (j + 1) 0 = (digs (n / 10)).getD j 0 := by simp [List.getD]
      rw [e, ih, Nat.pow_succ, Nat.mul_comm, ← Nat.div_div_eq_div_mul]
theorem top_zero (n : Nat) : n / 10 ^ (digs n).length = 0 := by
  have := digs_len_lt n
  apply Nat.div_eq_of_lt
  have h : ((10 ^ (digs n).length : Nat) : Int) = 10 ^ (digs n).length := by rw [Int.natCast_pow]; rfl
  omega
theorem next_digit (n j : Nat) : n / 10 ^ j = 10 * (n / 10 ^ (j + 1)) + n / 10 ^ j % 10 := by
  rw [Nat.pow_succ, ← Nat.div_div_eq_div_mul]; omega
theorem div_step (V C d : Nat) (hC : 0 < C) : (10 * V + d) / C = 10 * (V / C) + (10 * (V % C) + d) / C ∧ (10 * V + d) % C = (10 * (V % C) + d) % C := by
  have e : 10 * V + d = C * (10 * (V / C)) + (10 * (V % C) + d) := by
    have := Nat.div_add_mod V C
    grind
  rw [e]
  exact ⟨Nat.mul_add_div hC _ _, Nat.mul_add_mod _ _ _⟩
theorem div_digit (V C d : Nat) (hC : 0 < C) (hd : d ≤ 9) : (10 * (V % C) + d) / C ≤ 9 := by
  have h1 : V % C < C := Nat.mod_lt _ hC
  have : (10 * (V % C) + d) / C < 10 := Nat.div_lt_of_lt_mul (by omega)
  omega

/-- What digits are worth, the highest first. -/
def hval (l : List Int) : Int := l.foldl (fun n d => 10 * n + d) 0
theorem hval_snoc (l : List Int) (d : Int) : hval (l ++ [d]) = 10 * hval l + d := by simp [hval]
theorem hval_nonneg : ∀ {l : List Int}, Dig l → 0 ≤ hval l := by
  intro l
  have key : ∀ (m : List Int) (n : Int), 0 ≤ n → Dig m → 0 ≤ m.foldl (fun n d => 10 * n + d) n := by
    intro m
    induction m with
    | nil => intro n hn _; exact hn
    | cons d r ih => intro n hn h; exact ih (10 * n + d) (by have := h.head; omega) h.tail
  exact key l 0 (by omega)
theorem hval_take_le {l : List Int} (h : Dig l) (i : Nat) : hval (l.take i) ≤ hval l := by
  have key : ∀ (m : List Int) (n : Int), 0 ≤ n → Dig m → n ≤ m.foldl (fun n d => 10 * n + d) n := by
    intro m
    induction m with
    | nil => intro n _ _; exact Int.le_refl _
    | cons d r ih => intro n hn h; have := ih (10 * n + d) (by have := h.head; omega) h.tail; have := h.head; simp only [List.foldl_cons]; omega
  have e : hval l = (l.drop i).foldl (fun n d => 10 * n + d) (hval (l.take i)) := by
    unfold hval
    rw [← List.foldl_append, List.take_append_drop]
  rw [e]
  exact key _ _ (hval_nonneg (fun d hd => h d (List.mem_of_mem_take hd))) (fun d hd => h d (List.mem_of_mem_drop hd))
theorem hval_take_succ (l : List Int) (i : Nat) (h : i < l.length) : hval (l.take (i + 1)) = 10 * hval (l.take i) + l.getD i 0 := by
  rw [List.take_succ_eq_append_getElem h, hval_snoc]; simp [List.getD, h]
theorem hval_last (l : List Int) (h : l ≠ []) : hval l = 10 * hval (l.take (l.length - 1)) + l.getD (l.length - 1) 0 := by
  have hl : l.length ≠ 0 := fun e => h (List.eq_nil_of_length_eq_zero e)
  have := hval_take_succ l (l.length - 1) (by omega)
  rw [show l.length - 1 + 1 = l.length by omega, List.take_of_length_le (Nat.le_refl _)] at this
  exact this

/-- Is it rounded up, away from 0? -/
def upB (mode Q R C : Nat) : Bool := (mode == 1 && decide (0 < R)) || (decide (1 < mode) && decide (C < R * 2)) || (decide (R * 2 = C) && (mode == 2 || (mode == 3 && decide (Q % 2 = 1))))
/-- The quotient, rounded. -/
def rounded (mode P C : Nat) : Nat := P / C + if upB mode (P / C) (P % C) C = true then 1 else 0
end PDigs
