/-
  Numbers as lists of decimal digits, the lowest first: plain facts. No program is named here.
-/
namespace PDigs

/-- The digits of a number, the lowest first; none for 0. -/
def digs (n : Nat) : List Int := if h : n = 0 then [] else ((n % 10 : Nat) : Int) :: digs (n / 10)
termination_by n
decreasing_by omega

theorem digs_zero : digs 0 = [] := by rw [digs]; simp
theorem digs_pos {n : Nat} (h : n ≠ 0) : digs n = ((n % 10 : Nat) : Int) :: digs (n / 10) := by rw [digs, dif_neg h]
theorem digs_eq_nil {n : Nat} : digs n = [] ↔ n = 0 := by
  constructor
  · intro h
    by_cases h0 : n = 0
    · exact h0
    · rw [digs_pos h0] at h; cases h
  · rintro rfl; exact digs_zero

/-- What a list of digits is worth. -/
def val : List Int → Int
  | [] => 0
  | d :: r => d + 10 * val r

def Dig (l : List Int) : Prop := ∀ d ∈ l, 0 ≤ d ∧ d ≤ 9
theorem Dig.tail {d : Int} {r : List Int} (h : Dig (d :: r)) : Dig r := fun x hx => h x (List.mem_cons_of_mem _ hx)
theorem Dig.head {d : Int} {r : List Int} (h : Dig (d :: r)) : 0 ≤ d ∧ d ≤ 9 := h d (by simp)

theorem digs_dig (n : Nat) : Dig (digs n) := by
  induction n using Nat.strongRecOn with
  | _ n ih =>
    by_cases h : n = 0
    · subst h; rw [digs_zero]; intro d hd; cases hd
    · rw [digs_pos h]
      intro d hd
      rcases List.mem_cons.1 hd with rfl | hd
      · omega
      · exact ih (n / 10) (by omega) d hd
theorem val_digs (n : Nat) : val (digs n) = n := by
  induction n using Nat.strongRecOn with
  | _ n ih =>
    by_cases h : n = 0
    · subst h; rw [digs_zero]; rfl
    · rw [digs_pos h, val, ih (n / 10) (by omega)]; omega

theorem val_nonneg {l : List Int} (h : Dig l) : 0 ≤ val l := by
  induction l with
  | nil => exact Int.le_refl _
  | cons d r ih => have := ih h.tail; have := h.head; simp only [val]; omega
theorem val_append (a b : List Int) : val (a ++ b) = val a + 10 ^ a.length * val b := by
  induction a with
  | nil => simp [val]
  | cons d r ih =>
    simp only [List.cons_append, val, ih, List.length_cons]
    rw [Int.pow_succ, Int.mul_add, ← Int.mul_assoc, Int.mul_comm 10 (10 ^ r.length)]
    omega
theorem val_lt {l : List Int} (h : Dig l) : val l < 10 ^ l.length := by
  induction l with
  | nil => simp [val]
  | cons d r ih =>
    have h1 := ih h.tail
    have h2 := h.head
    simp only [val, List.length_cons, Int.pow_succ]
    omega

/-- The highest digit, if there is one, is not 0. -/
def Canon (l : List Int) : Prop := l = [] ∨ l.getD (l.length - 1) 0 ≠ 0
theorem canon_tail {d : Int} {r : List Int} (h : Canon (d :: r)) : Canon r := by
  rcases h with h | h
  · cases h
  · cases r with
    | nil => exact .inl rfl
    | cons e s => refine .inr ?_; simpa [List.getD] using h
/-- Digits without a nought at the top are the digits of their number. -/
theorem digs_unique : ∀ {l : List Int}, Dig l → Canon l → l = digs (val l).toNat
  | [], _, _ => by simp [val, digs_zero]
  | d :: r, hd, hc => by
    have ih := digs_unique hd.tail (canon_tail hc)
    have h1 := hd.head
    have h2 := val_nonneg hd.tail
    have hne : (val (d :: r)).toNat ≠ 0 := by
      intro h0
      simp only [val] at h0
      have hr : val r = 0 := by omega
      have : r = [] := by rw [ih, hr]; exact digs_zero
      subst this
      rcases hc with hc | hc
      · cases hc
      · simp [List.getD] at hc; omega
    rw [digs_pos hne]
    simp only [val] at hne ⊢
    have e1 : (((d + 10 * val r).toNat % 10 : Nat) : Int) = d := by omega
    have e2 : (d + 10 * val r).toNat / 10 = (val r).toNat := by omega
    rw [e1, e2, ← ih]
theorem digs_canon (n : Nat) : Canon (digs n) := by
  induction n using Nat.strongRecOn with
  | _ n ih =>
    by_cases h : n = 0
    · subst h; exact .inl digs_zero
    · right
      rw [digs_pos h]
      by_cases h1 : n / 10 = 0
      · rw [h1, digs_zero]; simp [List.getD]; omega
      · rcases ih (n / 10) (by omega) with h2 | h2
        · exact absurd (digs_eq_nil.1 h2) h1
        · rcases hl : digs (n / 10) with _ | ⟨e, s⟩
          · exact absurd (digs_eq_nil.1 hl) h1
          · rw [hl] at h2; simpa [List.getD] using h2

theorem digs_len_lt (n : Nat) : (n : Int) < 10 ^ (digs n).length := by
  have := val_lt (digs_dig n); rwa [val_digs] at this
theorem digs_len_le {n : Nat} (h : n ≠ 0) : 10 ^ ((digs n).length - 1) ≤ n := by
  induction n using Nat.strongRecOn with
  | _ n ih =>
    rw [digs_pos h]
    by_cases h1 : n / 10 = 0
    · rw [h1, digs_zero]; simp; omega
    · have := ih (n / 10) (by omega) h1
      have h2 : (digs (n / 10)).length ≠ 0 := fun e => h1 (digs_eq_nil.1 (List.eq_nil_of_length_eq_zero e))
      obtain ⟨k, hk⟩ : ∃ k, (digs (n / 10)).length = k + 1 := ⟨(digs (n / 10)).length - 1, by omega⟩
      rw [hk] at this
      simp only [List.length_cons, hk]
      simp only [Nat.add_sub_cancel] at this ⊢
      rw [Nat.pow_succ]
      omega
theorem digs_len_mono {x y : Nat} (h : (digs x).length < (digs y).length) : x < y := by
  have hy : y ≠ 0 := by rintro rfl; rw [digs_zero] at h; simp at h
  have h1 := digs_len_lt x
  have h2 := digs_len_le hy
  have h3 : (10 : Nat) ^ (digs x).length ≤ 10 ^ ((digs y).length - 1) := Nat.pow_le_pow_right (by omega) (by omega)
  have h4 : (x : Int) < ((10 ^ (digs x).length : Nat) : Int) := by rw [Int.natCast_pow]; exact h1
  omega
theorem digs_len_bound {n k : Nat} (h : n < 10 ^ k) : (digs n).length ≤ k := by
  by_cases h0 : n = 0
  · subst h0; rw [digs_zero]; simp
  · have h1 := digs_len_le h0
    rcases Nat.lt_or_ge k (digs n).length with h2 | h2
    · have : (10 : Nat) ^ k ≤ 10 ^ ((digs n).length - 1) := Nat.pow_le_pow_right (by omega) (by omega)
      omega
    · exact h2

/-- What is left when the noughts at the top are cut off. -/
theorem trim_digs {l : List Int} {k : Nat} (hd : Dig l) (hk : k ≤ l.length) (hz : ∀ i, k ≤ i → i < l.length → l.getD i 0 = 0) (ht : k = 0 ∨ l.getD (k - 1) 0 ≠ 0) : l.take k = digs (val l).toNat := by
  have h1 : Dig (l.take k) := fun d hd' => hd d (List.mem_of_mem_take hd')
  have h2 : Canon (l.take k) := by
    by_cases h0 : k = 0
    · left; subst h0; rfl
    · right
      rcases ht with ht | ht
      · exact absurd ht h0
      · rw [List.length_take, Nat.min_eq_left hk]
        simp only [List.getD, List.getElem?_take] at ht ⊢
        rwa [if_pos (by omega)]
  have h3 : val l = val (l.take k) := by
    have e : val (l.drop k) = 0 := by
      have hz' : ∀ d ∈ l.drop k, d = 0 := by
        intro d hd'
        obtain ⟨i, hi, rfl⟩ := List.mem_iff_getElem.1 hd'
        have := hz (k + i) (by omega) (by simp at hi; omega)
        simp only [List.length_drop] at hi
        simpa [List.getD, show k + i < l.length by omega] using this
      generalize l.drop k = m at hz'
      induction m with
      | nil => rfl
      | cons d r ih => simp only [val]; rw [ih (fun x hx => hz' x (by simp [hx])), hz' d (by simp)]; rfl
    conv => lhs; rw [← List.take_append_drop k l, val_append, e]
    omega
  rw [h3]
  exact digs_unique h1 h2

/-- Which of two numbers is less. -/
def cmp (x y : Nat) : Int := if x < y then -1 else if x = y then 0 else 1
theorem cmp_lt {x y : Nat} (h : x < y) : cmp x y = -1 := by unfold cmp; rw [if_pos h]
theorem cmp_gt {x y : Nat} (h : y < x) : cmp x y = 1 := by unfold cmp; rw [if_neg (by omega), if_neg (by omega)]
theorem cmp_eq {x y : Nat} (h : x = y) : cmp x y = 0 := by unfold cmp; rw [if_neg (by omega), if_pos h]

/-- Two lists that are the same from i on, and unlike at i - 1, are told by that digit. -/
theorem top_lt {a b : List Int} {i : Nat} (ha : Dig a) (hb : Dig b) (hl : a.length = b.length) (hi : i < a.length) (hs : a.drop (i + 1) = b.drop (i + 1)) (h : a.getD i 0 < b.getD i 0) : val a < val b := by
  have ea : a = a.take i ++ a.getD i 0 :: a.drop (i + 1) := by
    conv => lhs; rw [← List.take_append_drop i a, List.drop_eq_getElem_cons hi]
    simp [List.getD, hi]
  have eb : b = b.take i ++ b.getD i 0 :: b.drop (i + 1) := by
    conv => lhs; rw [← List.take_append_drop i b, List.drop_eq_getElem_cons (by omega)]
    simp [List.getD, show i < b.length by omega]
  rw [ea, eb, val_append, val_append, ← hs]
  simp only [val, List.length_take, Nat.min_eq_left (Nat.le_of_lt hi), Nat.min_eq_left (show i ≤ b.length by omega)]
  have h1 := val_lt (l := a.take i) (fun d hd => ha d (List.mem_of_mem_take hd))
  rw [List.length_take, Nat.min_eq_left (Nat.le_of_lt hi)] at h1
  have h0 := val_nonneg (l := a.take i) (fun d hd => ha d (List.mem_of_mem_take hd))
  have h2 := val_nonneg (l := b.take i) (fun d hd => hb d (List.mem_of_mem_take hd))
  generalize val (a.take i) = p at *
  generalize val (b.take i) = q at *
  generalize val (a.drop (i + 1)) = t at *
  generalize (10 : Int) ^ i = e at *
  have h3 : e * (a.getD i 0 + 10 * t) + e ≤ e * (b.getD i 0 + 10 * t) := by
    have : e * (b.getD i 0 + 10 * t) = e * (a.getD i 0 + 10 * t) + e * (b.getD i 0 - a.getD i 0) := by rw [← Int.mul_add]; congr 1; omega
    rw [this]
    have he : 0 ≤ e := by omega
    have : e * 1 ≤ e * (b.getD i 0 - a.getD i 0) := Int.mul_le_mul_of_nonneg_left (by omega) he
    omega
  omega

/-- One digit more. -/
theorem val_take_succ (l : List Int) (i : Nat) : val (l.take (i + 1)) = val (l.take i) + 10 ^ i * l.getD i 0 := by
  by_cases h : i < l.length
  · rw [List.take_succ_eq_append_getElem h, val_append]
    simp [val, List.getD, h, Nat.min_eq_left (Nat.le_of_lt h)]
  · rw [List.take_of_length_le (by omega), List.take_of_length_le (by omega)]
    simp [List.getD, show ¬ i < l.length by omega]
theorem less_step {A B O e ai bi c d c' : Int} (h : O - c * e = A - B) (hd : d - 10 * c' = ai - c - bi) : (O + e * d) - c' * (e * 10) = (A + e * ai) - (B + e * bi) := by
  grind
/-- What less has at the i-th place. -/
def Lessed (x y : Nat) (i : Nat) (o : List Int) (c : Int) : Prop :=
  o.length = i ∧ Dig o ∧ (c = 0 ∨ c = 1) ∧ val o - c * 10 ^ i = val ((digs x).take i) - val ((digs y).take i)
theorem lessed_zero (x y : Nat) : Lessed x y 0 [] 0 := ⟨rfl, (fun d hd => by cases hd), .inl rfl, by simp [val]⟩
theorem lessed_next {x y i : Nat} {o : List Int} {c d c' : Int} (h : Lessed x y i o c) (hd : 0 ≤ d ∧ d ≤ 9) (hc : c' = 0 ∨ c' = 1) (he : d - 10 * c' = (digs x).getD i 0 - c - (digs y).getD i 0) : Lessed x y (i + 1) (o ++ [d]) c' := by
  obtain ⟨h1, h2, h3, h4⟩ := h
  refine ⟨by simp [h1], fun z hz => ?_, hc, ?_⟩
  · rcases List.mem_append.1 hz with hz | hz
    · exact h2 z hz
    · rw [List.mem_singleton] at hz; subst hz; exact hd
  · rw [val_append, h1, val_take_succ, val_take_succ, Int.pow_succ]
    have := less_step (e := (10 : Int) ^ i) h4 he
    simpa [val] using this
theorem lessed_end {x y : Nat} {o : List Int} {c : Int} (h : Lessed x y (digs x).length o c) (hy : y ≤ x) : (val o).toNat = x - y := by
  obtain ⟨h1, h2, h3, h4⟩ := h
  have hl : (digs y).length ≤ (digs x).length := by
    rcases Nat.lt_or_ge (digs x).length (digs y).length with h | h
    · have := digs_len_mono h; omega
    · exact h
  rw [List.take_of_length_le (Nat.le_refl _), List.take_of_length_le hl, val_digs, val_digs] at h4
  have h5 := val_lt h2
  rw [h1] at h5
  have h6 := val_nonneg h2
  rcases h3 with rfl | rfl
  · omega
  · omega

theorem val_set (l : List Int) (t : Nat) (z : Int) (h : t < l.length) : val (l.set t z) = val l + 10 ^ t * (z - l.getD t 0) := by
  induction l generalizing t with
  | nil => simp at h
  | cons d r ih =>
    cases t with
    | zero => simp [val, List.getD]; omega
    | succ t =>
      have := ih t (by simpa using h)
      simp only [List.set_cons_succ, val, this, Int.pow_succ]
      have e : (d :: r).getD (t + 1) 0 = r.getD t 0 := by simp [List.getD]
      rw [e]
      grind
theorem getD_set (l : List Int) (t s : Nat) (z : Int) (h : t < l.length) : (l.set t z).getD s 0 = if t = s then z else l.getD s 0 := by
  by_cases e : t = s
  · subst e; simp [List.getD, h]
  · simp [List.getD, e]

/-- The product, row by row: behind i digits of x. -/
def MulOut (x y L i : Nat) (l : List Int) : Prop := l.length = L ∧ (∀ t, 0 ≤ l.getD t 0 ∧ l.getD t 0 ≤ 81 * (i : Int)) ∧ val l = val ((digs x).take i) * y
/-- .. and behind k digits of y in the next row. -/
def MulIn (x y L i k : Nat) (l : List Int) : Prop :=
  l.length = L ∧ (∀ t, 0 ≤ l.getD t 0 ∧ l.getD t 0 ≤ 81 * ((i : Int) + 1)) ∧ (∀ t, i + k ≤ t → l.getD t 0 ≤ 81 * (i : Int)) ∧
  val l = val ((digs x).take i) * y + (digs x).getD i 0 * 10 ^ i * val ((digs y).take k)
theorem mulOut_zero (x y L : Nat) : MulOut x y L 0 (List.replicate L 0) := by
  refine ⟨by simp, fun t => ?_, ?_⟩
  · have : (List.replicate L (0 : Int)).getD t 0 = 0 := by
      by_cases h : t < L <;> simp [List.getD, h]
    rw [this]; omega
  · have : val (List.replicate L (0 : Int)) = 0 := by
      induction L with
      | zero => rfl
      | succ n ih => rw [List.replicate_succ, val, ih]; rfl
    rw [this]; simp [val]
theorem mulIn_zero {x y L i : Nat} {l : List Int} (h : MulOut x y L i l) : MulIn x y L i 0 l := by
  obtain ⟨h1, h2, h3⟩ := h
  refine ⟨h1, fun t => ?_, fun t _ => (h2 t).2, ?_⟩
  · have := h2 t; omega
  · rw [h3]; simp [val]
theorem digs_getD (n i : Nat) : 0 ≤ (digs n).getD i 0 ∧ (digs n).getD i 0 ≤ 9 := by
  by_cases hi : i < (digs n).length
  · exact digs_dig n _ (by simp [List.getD, hi])
  · simp [List.getD, hi]
theorem mulIn_next {x y L i k : Nat} {l : List Int} (h : MulIn x y L i k l) (ht : i + k < L) : MulIn x y L i (k + 1) (l.set (i + k) (l.getD (i + k) 0 + (digs x).getD i 0 * (digs y).getD k 0)) := by
  obtain ⟨h1, h2, h3, h4⟩ := h
  obtain ⟨p0, p9⟩ := digs_getD x i
  obtain ⟨q0, q9⟩ := digs_getD y k
  have hpq0 : 0 ≤ (digs x).getD i 0 * (digs y).getD k 0 := Int.mul_nonneg p0 q0
  have hpq1 : (digs x).getD i 0 * (digs y).getD k 0 ≤ 81 := by
    have : (digs x).getD i 0 * (digs y).getD k 0 ≤ 9 * 9 := Int.mul_le_mul p9 q9 q0 (by omega)
    omega
  refine ⟨by simp [h1], fun t => ?_, fun t htt => ?_, ?_⟩
  · rw [getD_set _ _ _ _ (by omega)]
    split
    · have := h2 (i + k); have := h3 (i + k) (Nat.le_refl _); omega
    · exact h2 t
  · rw [getD_set _ _ _ _ (by omega), if_neg (by omega)]
    exact h3 t (by omega)
  · rw [val_set _ _ _ (by omega), h4, val_take_succ, Int.pow_add]
    grind
theorem mulOut_next {x y L i : Nat} {l : List Int} (h : MulIn x y L i (digs y).length l) : MulOut x y L (i + 1) l := by
  obtain ⟨h1, h2, _, h4⟩ := h
  refine ⟨h1, fun t => ?_, ?_⟩
  · have := h2 t; omega
  · rw [h4, List.take_of_length_le (Nat.le_refl _), val_digs, val_take_succ]
    grind

/-- What is carried: the first i numbers are digits. -/
def Carried (V : Int) (L i : Nat) (l : List Int) : Prop :=
  l.length = L ∧ (∀ t, 0 ≤ l.getD t 0) ∧ (∀ t, t < i → l.getD t 0 ≤ 9) ∧ l.getD i 0 ≤ 9000 ∧ (∀ t, i < t → l.getD t 0 ≤ 8100) ∧ val l = V
theorem carried_zero {x y L : Nat} {l : List Int} (h : MulOut x y L (digs x).length l) (hx : (digs x).length ≤ 100) : Carried ((x * y : Nat) : Int) L 0 l := by
  obtain ⟨h1, h2, h3⟩ := h
  refine ⟨h1, fun t => (h2 t).1, fun t ht => by omega, ?_, fun t _ => ?_, ?_⟩
  · have := h2 0; omega
  · have := h2 t; omega
  · rw [h3, List.take_of_length_le (Nat.le_refl _), val_digs, Int.natCast_mul]
theorem carried_next {V : Int} {L i : Nat} {l : List Int} (h : Carried V L i l) (hi : i + 1 < L) : Carried V L (i + 1) ((l.set (i + 1) (l.getD (i + 1) 0 + l.getD i 0 / 10)).set i (l.getD i 0 % 10)) := by
  obtain ⟨h1, h2, h3, h4, h5, h6⟩ := h
  have a0 := h2 i
  have b0 := h2 (i + 1)
  have b1 := h5 (i + 1) (by omega)
  have g : ∀ s, ((l.set (i + 1) (l.getD (i + 1) 0 + l.getD i 0 / 10)).set i (l.getD i 0 % 10)).getD s 0 = if i = s then l.getD i 0 % 10 else if i + 1 = s then l.getD (i + 1) 0 + l.getD i 0 / 10 else l.getD s 0 := fun s => by
    rw [getD_set _ _ _ _ (by simp; omega), getD_set _ _ _ _ (by omega)]
  refine ⟨by simp [h1], fun t => ?_, fun t ht => ?_, ?_, fun t ht => ?_, ?_⟩
  · rw [g]; split
    · omega
    · split
      · omega
      · exact h2 t
  · rw [g]; split
    · omega
    · rw [if_neg (by omega)]; exact h3 t (by omega)
  · rw [g, if_neg (by omega), if_pos rfl]; omega
  · rw [g, if_neg (by omega), if_neg (by omega)]; exact h5 t (by omega)
  · rw [val_set _ _ _ (by simp; omega), getD_set _ _ _ _ (by omega), if_neg (by omega), val_set _ _ _ (by omega), h6, Int.pow_succ]
    have e : l.getD i 0 = 10 * (l.getD i 0 / 10) + l.getD i 0 % 10 := by omega
    generalize l.getD i 0 / 10 = q at *
    generalize l.getD i 0 % 10 = r at *
    rw [e]
    grind
theorem carried_end {x y L : Nat} {l : List Int} (h : Carried ((x * y : Nat) : Int) (L + 1) L l) (hL : (digs x).length + (digs y).length = L) : Dig l ∧ (val l).toNat = x * y := by
  obtain ⟨h1, h2, h3, h4, h5, h6⟩ := h
  have hxy : ((x * y : Nat) : Int) < 10 ^ L := by
    have hx := digs_len_lt x
    have hy := digs_len_lt y
    rw [Int.natCast_mul, ← hL, Int.pow_add]
    have hpos : (0 : Int) < 10 ^ (digs x).length := Int.lt_of_le_of_lt (Int.natCast_nonneg x) hx
    exact Int.lt_of_le_of_lt (Int.mul_le_mul_of_nonneg_right (Int.le_of_lt hx) (Int.natCast_nonneg y)) (Int.mul_lt_mul_of_pos_left hy hpos)
  have hlast : l.getD L 0 = 0 := by
    have e : l = l.take L ++ [l.getD L 0] := by
      conv => lhs; rw [← List.take_append_drop L l, List.drop_eq_getElem_cons (by omega), List.drop_of_length_le (by omega)]
      simp [List.getD, show L < l.length by omega]
    have hv : val l = val (l.take L) + 10 ^ L * l.getD L 0 := by
      conv => lhs; rw [e, val_append]
      simp [val, h1]
    have hn : 0 ≤ val (l.take L) := val_nonneg (fun d hd => by
      obtain ⟨t, ht, rfl⟩ := List.mem_iff_getElem.1 hd
      have ht' : t < L := by simp at ht; omega
      have a := h2 t; have b := h3 t ht'
      have e2 : (l.take L)[t] = l.getD t 0 := by simp [List.getD, show t < l.length by omega]
      rw [e2]; exact ⟨a, b⟩)
    rw [h6] at hv
    have h0 := h2 L
    rcases Int.lt_or_le (l.getD L 0) 1 with hh | hh
    · omega
    · exfalso
      have hpos : (0 : Int) ≤ 10 ^ L := by omega
      have : (10 : Int) ^ L * 1 ≤ 10 ^ L * l.getD L 0 := Int.mul_le_mul_of_nonneg_left hh hpos
      omega
  refine ⟨fun d hd => ?_, by rw [h6, Int.toNat_natCast]⟩
  obtain ⟨t, ht, rfl⟩ := List.mem_iff_getElem.1 hd
  have e2 : l[t] = l.getD t 0 := by simp [List.getD, ht]
  rw [e2]
  by_cases hl : t = L
  · subst hl; rw [hlast]; omega
  · exact ⟨h2 t, h3 t (by omega)⟩
end PDigs
