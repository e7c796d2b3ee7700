/-
  Merging in place: what an exchange of ranges, a turn of two ranges and a merge by symmetric tests do to an array. Plain facts; no program is named here.
-/
import Derived.Sort.LotA
namespace PSym
open Go.Sort
variable {α : Type} [Inhabited α]

/-- g is f with [a, a + n) and [b, b + n) exchanged. -/
def SwpF (a b n : Nat) (f g : Nat → α) : Prop :=
  (∀ t, a ≤ t → t < a + n → g t = f (t - a + b)) ∧ (∀ t, b ≤ t → t < b + n → g t = f (t - b + a)) ∧ (∀ t, (t < a ∨ a + n ≤ t) → (t < b ∨ b + n ≤ t) → g t = f t)
/-- g is f with [s, m) behind [m, e). -/
def RotF (s m e : Nat) (f g : Nat → α) : Prop :=
  (∀ t, s ≤ t → t < s + (e - m) → g t = f (t + (m - s))) ∧ (∀ t, s + (e - m) ≤ t → t < e → g t = f (t - (e - m))) ∧ (∀ t, t < s ∨ e ≤ t → g t = f t)

omit [Inhabited α] in
theorem RotF.none_left (m e : Nat) (f : Nat → α) : RotF m m e f f :=
  ⟨fun t _ _ => by rw [Nat.sub_self, Nat.add_zero], fun t h1 h2 => by omega, fun _ _ => rfl⟩
omit [Inhabited α] in
theorem RotF.none_right (s m : Nat) (f : Nat → α) : RotF s m m f f :=
  ⟨fun t h1 h2 => by omega, fun t _ _ => by rw [Nat.sub_self, Nat.sub_zero], fun _ _ => rfl⟩
omit [Inhabited α] in
theorem SwpF.none (a b : Nat) (f : Nat → α) : SwpF a b 0 f f := ⟨fun t h1 h2 => by omega, fun t h1 h2 => by omega, fun _ _ _ => rfl⟩

omit [Inhabited α] in
theorem at_eq (f : Nat → α) {x y : Nat} (h : x = y) : f x = f y := by rw [h]

omit [Inhabited α] in
theorem rot_gt {s m e : Nat} {f g h : Nat → α} (hsm : s ≤ m) (hme : m ≤ e) (hij : e - m < m - s) (hs : SwpF s m (e - m) f g) (hr : RotF (s + (e - m)) m e g h) : RotF s m e f h := by
  obtain ⟨s1, s2, s3⟩ := hs
  obtain ⟨r1, r2, r3⟩ := hr
  refine ⟨fun t h1 h2 => ?_, fun t h1 h2 => ?_, fun t ht => ?_⟩
  · rw [r3 t (by omega), s1 t h1 h2]; exact at_eq f (by omega)
  · by_cases hc : t < s + (e - m) + (e - m)
    · rw [r1 t h1 hc, s2 _ (by omega) (by omega)]; exact at_eq f (by omega)
    · rw [r2 t (by omega) h2, s3 _ (by omega) (by omega)]
  · rw [r3 t (by omega), s3 t (by omega) (by omega)]
omit [Inhabited α] in
theorem rot_lt {s m e : Nat} {f g h : Nat → α} (hsm : s ≤ m) (hme : m ≤ e) (hij : m - s < e - m) (hs : SwpF s (e - (m - s)) (m - s) f g) (hr : RotF s m (e - (m - s)) g h) : RotF s m e f h := by
  obtain ⟨s1, s2, s3⟩ := hs
  obtain ⟨r1, r2, r3⟩ := hr
  refine ⟨fun t h1 h2 => ?_, fun t h1 h2 => ?_, fun t ht => ?_⟩
  · by_cases hc : t < s + (e - (m - s) - m)
    · rw [r1 t h1 hc, s3 _ (by omega) (by omega)]
    · rw [r2 t (by omega) (by omega), s1 _ (by omega) (by omega)]; exact at_eq f (by omega)
  · rw [r3 t (by omega), s2 t (by omega) (by omega)]; exact at_eq f (by omega)
  · rw [r3 t (by omega), s3 t (by omega) (by omega)]
omit [Inhabited α] in
theorem rot_eq {s m e : Nat} {f g : Nat → α} (hsm : s ≤ m) (hme : m ≤ e) (hij : m - s = e - m) (hs : SwpF s m (m - s) f g) : RotF s m e f g := by
  obtain ⟨s1, s2, s3⟩ := hs
  refine ⟨fun t h1 h2 => ?_, fun t h1 h2 => ?_, fun t ht => ?_⟩
  · rw [s1 t h1 (by omega)]; exact at_eq f (by omega)
  · rw [s2 t (by omega) (by omega)]; exact at_eq f (by omega)
  · rw [s3 t (by omega) (by omega)]

/-- An array's places. -/
def at' (d : Array α) (t : Nat) : α := d[t]!

/-- One more place is exchanged. -/
theorem swp_next {a b i : Nat} {d dk : Array α} (hab : a + i < b) (hb : b + i < dk.size) (h : SwpF a b i (at' d) (at' dk)) : SwpF a b (i + 1) (at' d) (at' (swp dk (a + i) (b + i))) := by
  obtain ⟨s1, s2, s3⟩ := h
  have o : ∀ t, t ≠ a + i → t ≠ b + i → at' (swp dk (a + i) (b + i)) t = at' dk t := fun t h1 h2 => swp_other dk _ _ t h1 h2
  have l : at' (swp dk (a + i) (b + i)) (a + i) = at' dk (b + i) := swp_left dk _ _ (by omega) (by omega)
  have r : at' (swp dk (a + i) (b + i)) (b + i) = at' dk (a + i) := swp_right dk _ _ (by omega)
  refine ⟨fun t h1 h2 => ?_, fun t h1 h2 => ?_, fun t h1 h2 => ?_⟩
  · by_cases e : t = a + i
    · subst e; rw [l, s3 _ (by omega) (by omega)]; exact at_eq _ (by omega)
    · rw [o t e (by omega)]; exact s1 t h1 (by omega)
  · by_cases e : t = b + i
    · subst e; rw [r, s3 _ (by omega) (by omega)]; exact at_eq _ (by omega)
    · rw [o t (by omega) e]; exact s2 t h1 (by omega)
  · rw [o t (by omega) (by omega)]; exact s3 t (by omega) (by omega)
/-- The one at a goes one place on. -/
theorem shift_up {a k : Nat} {d dk : Array α} (hak : a ≤ k) (hk : k + 1 < dk.size) (h : RotF a (a + 1) (k + 1) (at' d) (at' dk)) : RotF a (a + 1) (k + 2) (at' d) (at' (swp dk k (k + 1))) := by
  obtain ⟨s1, s2, s3⟩ := h
  have o : ∀ t, t ≠ k → t ≠ k + 1 → at' (swp dk k (k + 1)) t = at' dk t := fun t h1 h2 => swp_other dk _ _ t h1 h2
  have l : at' (swp dk k (k + 1)) k = at' dk (k + 1) := swp_left dk _ _ (by omega) (by omega)
  have r : at' (swp dk k (k + 1)) (k + 1) = at' dk k := swp_right dk _ _ (by omega)
  refine ⟨fun t h1 h2 => ?_, fun t h1 h2 => ?_, fun t ht => ?_⟩
  · by_cases e : t = k
    · subst e; rw [l, s3 _ (by omega)]; exact at_eq _ (by omega)
    · rw [o t e (by omega)]; exact s1 t h1 (by omega)
  · obtain rfl : t = k + 1 := by omega
    rw [r, s2 k (by omega) (by omega)]; exact at_eq _ (by omega)
  · rw [o t (by omega) (by omega)]; exact s3 t (by omega)
/-- The one at m goes one place back. -/
theorem shift_down {m k : Nat} {d dk : Array α} (hk : 0 < k) (hkm : k ≤ m) (hm : m < dk.size) (h : RotF k m (m + 1) (at' d) (at' dk)) : RotF (k - 1) m (m + 1) (at' d) (at' (swp dk k (k - 1))) := by
  obtain ⟨s1, s2, s3⟩ := h
  have o : ∀ t, t ≠ k → t ≠ k - 1 → at' (swp dk k (k - 1)) t = at' dk t := fun t h1 h2 => swp_other dk _ _ t h1 h2
  have l : at' (swp dk k (k - 1)) k = at' dk (k - 1) := swp_left dk _ _ (by omega) (by omega)
  have r : at' (swp dk k (k - 1)) (k - 1) = at' dk k := swp_right dk _ _ (by omega)
  refine ⟨fun t h1 h2 => ?_, fun t h1 h2 => ?_, fun t ht => ?_⟩
  · obtain rfl : t = k - 1 := by omega
    rw [r, s1 k (by omega) (by omega)]; exact at_eq _ (by omega)
  · by_cases e : t = k
    · subst e; rw [l, s3 _ (by omega)]; exact at_eq _ (by omega)
    · rw [o t e (by omega)]; exact s2 t (by omega) h2
  · rw [o t (by omega) (by omega)]; exact s3 t (by omega)

variable {lt : α → α → Bool}

omit [Inhabited α] in
theorem lt_of_le_lt (hS : SWO lt) {x y z : α} (h1 : lt y x = false) (h2 : lt y z = true) : lt x z = true := by
  cases h : lt x z with
  | true => rfl
  | false =>
    -- not (y < x), not (x < z): not (y < z)
    rw [hS.ntrans y x z h1 h] at h2; cases h2
omit [Inhabited α] in
theorem lt_of_lt_le (hS : SWO lt) {x y z : α} (h1 : lt x y = true) (h2 : lt z y = false) : lt x z = true := by
  cases h : lt x z with
  | true => rfl
  | false => rw [hS.ntrans x z y h h2] at h1; cases h1
theorem sorted_le (hS : SWO lt) {a b : Nat} {d : Array α} (h : SortedIn lt a b d) (i j : Nat) (h1 : a ≤ i) (h2 : i ≤ j) (h3 : j < b) : lt (at' d j) (at' d i) = false := by
  by_cases e : i = j
  · subst e; exact hS.irrefl _
  · exact h i j h1 (by omega) h3

/-- One element ahead of a sorted range, put where it belongs. -/
theorem one_left (hS : SWO lt) {a b i : Nat} {d d' : Array α} (hai : a + 1 ≤ i) (hib : i ≤ b) (hr : SortedIn lt (a + 1) b d) (hl : ∀ h, a + 1 ≤ h → h < i → lt (at' d h) (at' d a) = true) (hg : ∀ h, i ≤ h → h < b → lt (at' d h) (at' d a) = false)
    (hR : RotF a (a + 1) i (at' d) (at' d')) : SortedIn lt a b d' := by
  obtain ⟨r1, r2, r3⟩ := hR
  intro x y hx hxy hy
  show lt (at' d' y) (at' d' x) = false
  by_cases hy1 : y < i - 1
  · rw [r1 y (by omega) (by omega), r1 x (by omega) (by omega)]
    exact hr _ _ (by omega) (by omega) (by omega)
  · by_cases hy2 : y = i - 1
    · rw [r2 y (by omega) (by omega), r1 x (by omega) (by omega)]
      apply hS.asymmA
      rw [show y - (i - (a + 1)) = a by omega]
      exact hl _ (by omega) (by omega)
    · rw [r3 y (by omega)]
      by_cases hx1 : x < i - 1
      · rw [r1 x (by omega) (by omega)]; exact hr _ _ (by omega) (by omega) (by omega)
      · by_cases hx2 : x = i - 1
        · rw [r2 x (by omega) (by omega), show x - (i - (a + 1)) = a by omega]; exact hg y (by omega) hy
        · rw [r3 x (by omega)]; exact hr _ _ (by omega) (by omega) hy
/-- One element behind a sorted range, put where it belongs. -/
theorem one_right (hS : SWO lt) {a m i : Nat} {d d' : Array α} (hai : a ≤ i) (him : i ≤ m) (hr : SortedIn lt a m d) (hl : ∀ h, a ≤ h → h < i → lt (at' d m) (at' d h) = false) (hg : ∀ h, i ≤ h → h < m → lt (at' d m) (at' d h) = true)
    (hR : RotF i m (m + 1) (at' d) (at' d')) : SortedIn lt a (m + 1) d' := by
  obtain ⟨r1, r2, r3⟩ := hR
  intro x y hx hxy hy
  show lt (at' d' y) (at' d' x) = false
  by_cases hx1 : x < i
  · rw [r3 x (by omega)]
    by_cases hy1 : y < i
    · rw [r3 y (by omega)]; exact hr _ _ hx hxy (by omega)
    · by_cases hy2 : y = i
      · rw [r1 y (by omega) (by omega), show y + (m - i) = m by omega]; exact hl x hx hx1
      · rw [r2 y (by omega) (by omega)]; exact hr _ _ hx (by omega) (by omega)
  · rw [r2 y (by omega) (by omega)]
    by_cases hx2 : x = i
    · rw [r1 x (by omega) (by omega), show x + (m - i) = m by omega]
      exact hS.asymmA (hg _ (by omega) (by omega))
    · rw [r2 x (by omega) (by omega)]; exact hr _ _ (by omega) (by omega) (by omega)

/-- The tests of the code are the order's, of one from the right against one from the left. -/
def Agr (c lt : α → α → Bool) (a m b : Nat) (d : Array α) : Prop := ∀ i j, a ≤ i → i < m → m ≤ j → j < b → c (at' d j) (at' d i) = lt (at' d j) (at' d i)

/-- Behind the turn: what is left of the middle is not above what is right of it. -/
theorem sym_cross (hS : SWO lt) {a m b mid s e : Nat} {d d1 : Array α} (ham : a ≤ s) (hsm : s ≤ m) (hme : m ≤ e) (heb : e ≤ b) (hmid : s + (e - m) = mid)
    (hl : SortedIn lt a m d) (hr : SortedIn lt m b d) (h1 : a < s → e < b → lt (at' d e) (at' d (s - 1)) = false) (h2 : m < e → s < m → lt (at' d (e - 1)) (at' d s) = true)
    (hR : RotF s m e (at' d) (at' d1)) : ∀ i j, a ≤ i → i < mid → mid ≤ j → j < b → lt (at' d1 j) (at' d1 i) = false := by
  obtain ⟨r1, r2, r3⟩ := hR
  intro i j hi him hj hjb
  by_cases hi1 : i < s
  · rw [r3 i (by omega)]
    by_cases hj1 : j < e
    · rw [r2 j (by omega) (by omega)]; exact hl _ _ hi (by omega) (by omega)
    · rw [r3 j (by omega)]
      have k := h1 (by omega) (by omega)
      have k1 := sorted_le hS hr e j (by omega) (by omega) hjb
      have k2 := sorted_le hS hl i (s - 1) hi (by omega) (by omega)
      exact hS.ntrans _ _ _ (hS.ntrans _ _ _ k1 k) k2
  · rw [r1 i (by omega) (by omega)]
    by_cases hj1 : j < e
    · rw [r2 j (by omega) (by omega)]
      have k := h2 (by omega) (by omega)
      have k1 := sorted_le hS hr (i + (m - s)) (e - 1) (by omega) (by omega) (by omega)
      have k2 := sorted_le hS hl s (j - (e - m)) (by omega) (by omega) (by omega)
      exact hS.ntrans _ _ _ k2 (hS.ntrans _ _ _ (hS.asymmA k) k1)
    · rw [r3 j (by omega)]; exact hr _ _ (by omega) (by omega) hjb
theorem rot_sorted {a m b mid s e : Nat} {d d1 : Array α} (ham : a ≤ s) (hsm : s ≤ m) (hme : m ≤ e) (heb : e ≤ b) (hmid : s + (e - m) = mid)
    (hl : SortedIn lt a m d) (hr : SortedIn lt m b d) (hR : RotF s m e (at' d) (at' d1)) : SortedIn lt a s d1 ∧ SortedIn lt s mid d1 ∧ SortedIn lt mid e d1 ∧ SortedIn lt e b d1 := by
  obtain ⟨r1, r2, r3⟩ := hR
  refine ⟨fun i j h1 h2 h3 => ?_, fun i j h1 h2 h3 => ?_, fun i j h1 h2 h3 => ?_, fun i j h1 h2 h3 => ?_⟩ <;> show lt (at' d1 j) (at' d1 i) = false
  · rw [r3 i (by omega), r3 j (by omega)]; exact hl _ _ h1 h2 (by omega)
  · rw [r1 i (by omega) (by omega), r1 j (by omega) (by omega)]; exact hr _ _ (by omega) (by omega) (by omega)
  · rw [r2 i (by omega) (by omega), r2 j (by omega) (by omega)]; exact hl _ _ (by omega) (by omega) (by omega)
  · rw [r3 i (by omega), r3 j (by omega)]; exact hr _ _ (by omega) h2 h3
theorem rot_agr {c : α → α → Bool} {a m b mid s e : Nat} {d d1 : Array α} (ham : a ≤ s) (hsm : s ≤ m) (hme : m ≤ e) (heb : e ≤ b) (hmid : s + (e - m) = mid)
    (hA : Agr c lt a m b d) (hR : RotF s m e (at' d) (at' d1)) : Agr c lt a s mid d1 ∧ Agr c lt mid e b d1 := by
  obtain ⟨r1, r2, r3⟩ := hR
  refine ⟨fun i j h1 h2 h3 h4 => ?_, fun i j h1 h2 h3 h4 => ?_⟩
  · rw [r3 i (by omega), r1 j (by omega) (by omega)]; exact hA _ _ h1 (by omega) (by omega) (by omega)
  · rw [r2 i (by omega) (by omega), r3 j (by omega)]; exact hA _ _ (by omega) (by omega) (by omega) h4
theorem perm_other {a b : Nat} {d d' : Array α} (h : PermIn a b d d') (i : Nat) (hi : i < a ∨ b ≤ i) : at' d' i = at' d i := h.2.1 i hi
theorem sorted_other {a b x y : Nat} {d d' : Array α} (h : PermIn a b d d') (hxy : y ≤ a ∨ b ≤ x) (hs : SortedIn lt x y d) : SortedIn lt x y d' := by
  intro i j h1 h2 h3
  show lt (at' d' j) (at' d' i) = false
  rw [perm_other h i (by omega), perm_other h j (by omega)]; exact hs i j h1 h2 h3
theorem agr_other {c : α → α → Bool} {a b x m y : Nat} {d d' : Array α} (h : PermIn a b d d') (hxy : y ≤ a ∨ b ≤ x) (hs : Agr c lt x m y d) : Agr c lt x m y d' := by
  intro i j h1 h2 h3 h4
  rw [perm_other h i (by omega), perm_other h j (by omega)]; exact hs i j h1 h2 h3 h4
theorem sym_join {a mid b : Nat} {d1 d2 d3 : Array α} (ham : a ≤ mid) (hmb : mid ≤ b) (hb : b ≤ d1.size) (hx : ∀ i j, a ≤ i → i < mid → mid ≤ j → j < b → lt (at' d1 j) (at' d1 i) = false)
    (p2 : PermIn a mid d1 d2) (s2 : SortedIn lt a mid d2) (p3 : PermIn mid b d2 d3) (s3 : SortedIn lt mid b d3) : SortedIn lt a b d3 ∧ PermIn a b d1 d3 := by
  have hs2 : d2.size = d1.size := p2.1
  refine ⟨fun i j h1 h2 h3 => ?_, permIn_trans _ _ _ _ _ (permIn_mono _ _ _ _ _ _ (Nat.le_refl _) hmb hb p2) (permIn_mono _ _ _ _ _ _ ham (Nat.le_refl _) (by omega) p3)⟩
  by_cases hj : j < mid
  · show lt (at' d3 j) (at' d3 i) = false
    rw [perm_other p3 i (by omega), perm_other p3 j (by omega)]; exact s2 i j h1 h2 hj
  · by_cases hi : mid ≤ i
    · exact s3 i j hi h2 h3
    · have k2 : ∀ v, mid ≤ v → v < b → ∀ u, a ≤ u → u < mid → lt (at' d1 v) (at' d2 u) = false := fun v hv1 hv2 =>
        permIn_all d1 d2 a mid (fun x => lt (at' d1 v) x = false) (by omega) p2 (fun u hu1 hu2 => hx u v hu1 hu2 hv1 hv2)
      have k3 := permIn_all d2 d3 mid b (fun y => lt y (at' d2 i) = false) (by omega) p3 (fun v hv1 hv2 => by
        have e : d2[v]! = at' d1 v := perm_other p2 v (by omega)
        rw [e]; exact k2 v hv1 hv2 i h1 (by omega)) j (by omega) h3
      show lt (at' d3 j) (at' d3 i) = false
      rw [perm_other p3 i (by omega)]; exact k3

/-! ### The insertion sort by tests that are the order's -/
theorem insInner_agr {c lt : α → α → Bool} (a : Nat) : ∀ (j : Nat) (d : Array α), j < d.size → (∀ t, a ≤ t → t < j → c (at' d j) (at' d t) = lt (at' d j) (at' d t)) → insInner c a j d = insInner lt a j d
  | 0, d, _, _ => by rw [insInner, insInner]
  | j + 1, d, hj, h => by
    rw [insInner, insInner]
    by_cases ha : a ≤ j
    · have hc : c d[j + 1]! d[j]! = lt d[j + 1]! d[j]! := h j ha (by omega)
      rw [hc]
      by_cases hl : lt d[j + 1]! d[j]! = true
      · simp only [hl, Bool.and_true]
        rw [if_pos (decide_eq_true (by omega)), if_pos (decide_eq_true (by omega))]
        refine insInner_agr a j _ (by rw [size_swp]; omega) (fun t h1 h2 => ?_)
        have e1 : at' (swp d (j + 1) j) j = at' d (j + 1) := swp_right d _ _ (by omega)
        have e2 : at' (swp d (j + 1) j) t = at' d t := swp_other d _ _ t (by omega) (by omega)
        rw [e1, e2]; exact h t h1 (by omega)
      · simp only [hl, Bool.and_false]
        rfl
    · have : decide (j + 1 > a) = false := decide_eq_false (by omega)
      rw [this]; rfl
theorem insInner_perm (lt : α → α → Bool) (a b : Nat) : ∀ (j : Nat) (d : Array α), j < b → b ≤ d.size → PermIn a b d (insInner lt a j d)
  | 0, d, _, _ => by rw [insInner]; exact permIn_refl _ _ _
  | j + 1, d, hj, hb => by
    rw [insInner]
    split
    · rename_i h
      have : a < j + 1 := by simp only [Bool.and_eq_true, decide_eq_true_eq] at h; omega
      exact permIn_trans _ _ _ _ _ (swp_permIn d a b (j + 1) j (by omega) hj (by omega) (by omega) hb) (insInner_perm lt a b j _ (by omega) (by rw [size_swp]; exact hb))
    · exact permIn_refl _ _ _
theorem ins_go (lt : α → α → Bool) (a b i : Nat) (d : Array α) (h : i < b) : insOuter lt a b i d = insOuter lt a b (i + 1) (insInner lt a i d) := by rw [insOuter, if_pos h]
theorem ins_stop (lt : α → α → Bool) (a b i : Nat) (d : Array α) (h : ¬ i < b) : insOuter lt a b i d = d := by rw [insOuter, if_neg h]
theorem insOuter_agr {c lt : α → α → Bool} (a b : Nat) : ∀ (k i : Nat) (d : Array α), b - i ≤ k → a ≤ i → b ≤ d.size → (∀ u, i ≤ u → u < b → ∀ t, a ≤ t → t < u → c (at' d u) (at' d t) = lt (at' d u) (at' d t)) → insOuter c a b i d = insOuter lt a b i d := by
  intro k
  induction k with
  | zero =>
    intro i d hk _ _ _
    rw [ins_stop _ _ _ _ _ (by omega), ins_stop _ _ _ _ _ (by omega)]
  | succ k ih =>
    intro i d hk hai hb h
    by_cases hi : i < b
    · rw [ins_go _ _ _ _ _ hi, ins_go _ _ _ _ _ hi, insInner_agr a i d (by omega) (fun t h1 h2 => h i (Nat.le_refl _) hi t h1 h2)]
      have hp := insInner_perm lt a (i + 1) i d (by omega) (by omega)
      refine ih (i + 1) _ (by omega) (by omega) (by rw [hp.1]; exact hb) (fun u hu1 hu2 t ht1 ht2 => ?_)
      rw [perm_other hp u (by omega)]
      by_cases ht : t < i + 1
      · exact permIn_all d _ a (i + 1) (fun x => c (at' d u) x = lt (at' d u) x) (by omega) hp (fun t' h1 h2 => h u (by omega) hu2 t' h1 (by omega)) t ht1 ht
      · rw [perm_other hp t (by omega)]; exact h u (by omega) hu2 t ht1 ht2
    · rw [ins_stop _ _ _ _ _ hi, ins_stop _ _ _ _ _ hi]
theorem insertion_agr {c lt : α → α → Bool} (hS : SWO lt) {a b : Nat} {d : Array α} (hab : a ≤ b) (hb : b ≤ d.size) (h : ∀ u, a ≤ u → u < b → ∀ t, a ≤ t → t < u → c (at' d u) (at' d t) = lt (at' d u) (at' d t)) :
    PermIn a b d (insertionSort c d a b) ∧ SortedIn lt a b (insertionSort c d a b) := by
  have e : insertionSort c d a b = insertionSort lt d a b := insOuter_agr a b (b - (a + 1)) (a + 1) d (Nat.le_refl _) (by omega) hb (fun u h1 h2 => h u (by omega) h2)
  rw [e]; exact insertionSort_holds hS d a b hab hb
end PSym
