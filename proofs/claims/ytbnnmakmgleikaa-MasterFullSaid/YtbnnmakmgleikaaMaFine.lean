/-
  Whatever is done, people stay by rising ids, records by rising periods, and few. Plain facts; no program is named here.
-/
import Derived.Test.YtbnnmakmgleikaaMaMath
set_option linter.unusedVariables false
namespace PMa
open Go

/-- Rising by a number of each. -/
def Inc {α : Type} (k : α → Int) (l : List α) : Prop := ∀ (i j : Nat) (x y : α), i < j → l[i]? = some x → l[j]? = some y → k x < k y
theorem with_cases {α : Type} {l : List α} {i j a : Nat} {x y : α} (hi : i ≤ l.length) (h : (with_ l i j x)[a]? = some y) : (a < i ∧ l[a]? = some y) ∨ (a = i ∧ y = x) ∨ ∃ m, a = i + 1 + m ∧ l[j + m]? = some y := by
  rcases Nat.lt_trichotomy a i with h1 | h1 | h1
  · rw [with_lo hi h1] at h; exact .inl ⟨h1, h⟩
  · subst h1
    rw [with_at hi] at h
    exact .inr (.inl ⟨rfl, (Option.some.inj h).symm⟩)
  · obtain ⟨m, rfl⟩ : ∃ m, a = i + 1 + m := ⟨a - i - 1, by omega⟩
    rw [with_hi hi] at h
    exact .inr (.inr ⟨m, rfl, h⟩)
theorem inc_with {α : Type} {k : α → Int} {l : List α} {i j : Nat} {x : α} (h : Inc k l) (hi : i ≤ j) (hj : i ≤ l.length) (h1 : ∀ a y, a < i → l[a]? = some y → k y < k x) (h2 : ∀ b y, j ≤ b → l[b]? = some y → k x < k y) : Inc k (with_ l i j x) := fun a b u v hab hu hv => by
  rcases with_cases hj hu with ⟨q1, q2⟩ | ⟨rfl, rfl⟩ | ⟨m, rfl, q2⟩
  · rcases with_cases hj hv with ⟨p1, p2⟩ | ⟨rfl, rfl⟩ | ⟨m', rfl, p2⟩
    · exact h _ _ _ _ hab q2 p2
    · exact h1 _ _ q1 q2
    · exact h _ _ _ _ (by omega) q2 p2
  · rcases with_cases hj hv with ⟨p1, p2⟩ | ⟨p1, p2⟩ | ⟨m', rfl, p2⟩
    · omega
    · omega
    · exact h2 _ _ (by omega) p2
  · rcases with_cases hj hv with ⟨p1, p2⟩ | ⟨p1, p2⟩ | ⟨m', rfl, p2⟩
    · omega
    · omega
    · exact h _ _ _ _ (by omega) q2 p2
theorem mem_with {α : Type} {l : List α} {i j : Nat} {x y : α} (h : y ∈ with_ l i j x) : y = x ∨ y ∈ l := by
  unfold with_ at h
  rcases List.mem_append.1 h with h | h
  · exact .inr (List.mem_of_mem_take h)
  · rcases List.mem_cons.1 h with h | h
    · exact .inl h
    · exact .inr (List.mem_of_mem_drop h)
theorem Fine.nil : Fine [] := ⟨fun i j x y _ h => by simp at h, fun p h => by cases h⟩
theorem Fine.inc {M : List Per} (h : Fine M) : Inc Per.id M := h.ids
theorem ahead {M : List Per} {id : Int} {a : Nat} {y : Per} (ha : a < place M id) (hy : M[a]? = some y) : y.id < id := by
  have := lead_yes (f := fun p : Per => decide (p.id < id)) ha hy
  simpa using this
theorem behind {M : List Per} (hF : Fine M) {id : Int} (hn : there M id = false) {b : Nat} {y : Per} (hb : place M id ≤ b) (hy : M[b]? = some y) : id < y.id := by
  have hlt : place M id < M.length := Nat.lt_of_le_of_lt hb (List.getElem?_eq_some_iff.1 hy).1
  obtain ⟨p, hp⟩ : ∃ p, M[place M id]? = some p := ⟨_, List.getElem?_eq_getElem hlt⟩
  have h1 : ¬ p.id < id := by
    have := lead_no (f := fun p : Per => decide (p.id < id)) hp
    simpa using this
  have h2 : ¬ p.id = id := by
    unfold there at hn
    rw [hp] at hn
    simpa using hn
  rcases Nat.lt_or_eq_of_le hb with h | h
  · have := hF.ids _ _ _ _ h hp hy; omega
  · rw [← h, hp] at hy; cases hy; omega
theorem there_at {M : List Per} {id : Int} (h : there M id = true) : ∃ p, M[place M id]? = some p ∧ p.id = id ∧ M.getD (place M id) default = p := by
  unfold there at h
  split at h
  · rename_i p hp
    exact ⟨p, hp, by simpa using h, by rw [List.getD, hp]; rfl⟩
  · cases h
theorem Fine.put {M : List Per} (hF : Fine M) {id : Int} (h : there M id = true) {p' : Per} (h1 : p'.id = (M.getD (place M id) default).id) (h2 : Up p'.recs) : Fine (with_ M (place M id) (place M id + 1) p') := by
  obtain ⟨p, hp, hid, hd⟩ := there_at h
  rw [hd] at h1
  have hle := lead_le (fun p : Per => decide (p.id < id)) M
  refine ⟨inc_with hF.inc (Nat.le_succ _) hle (fun a y ha hy => ?_) (fun b y hb hy => ?_), fun q hq => ?_⟩
  · rw [h1]; exact hF.ids _ _ _ _ ha hy hp
  · rw [h1]; exact hF.ids _ _ _ _ (show place M id < b by omega) hp hy
  · rcases mem_with hq with rfl | hq
    · exact h2
    · exact hF.ups q hq
theorem up_with {l : List Rcd} (h : Up l) (r : Rcd) : Up (with_ l (upTo l (r.frm - 1)) (upTo l r.frm) r) := by
  have hm : upTo l (r.frm - 1) ≤ upTo l r.frm := by
    rcases Nat.lt_or_ge (upTo l r.frm) (upTo l (r.frm - 1)) with h1 | h1
    · obtain ⟨x, hx⟩ : ∃ x, l[upTo l r.frm]? = some x := ⟨_, List.getElem?_eq_getElem (Nat.lt_of_lt_of_le h1 (lead_le _ l))⟩
      have a := lead_yes (f := fun q : Rcd => decide (q.frm ≤ r.frm - 1)) h1 hx
      have b := lead_no (f := fun q : Rcd => decide (q.frm ≤ r.frm)) hx
      simp only [decide_eq_true_eq, decide_eq_false_iff_not] at a b
      omega
    · exact h1
  refine inc_with (k := Rcd.frm) h hm (lead_le _ l) (fun a y ha hy => ?_) (fun b y hb hy => ?_)
  · have := lead_yes (f := fun q : Rcd => decide (q.frm ≤ r.frm - 1)) ha hy
    simp only [decide_eq_true_eq] at this
    omega
  · have hlt : upTo l r.frm < l.length := Nat.lt_of_le_of_lt hb (List.getElem?_eq_some_iff.1 hy).1
    obtain ⟨x, hx⟩ : ∃ x, l[upTo l r.frm]? = some x := ⟨_, List.getElem?_eq_getElem hlt⟩
    have h1 := lead_no (f := fun q : Rcd => decide (q.frm ≤ r.frm)) hx
    simp only [decide_eq_false_iff_not] at h1
    rcases Nat.lt_or_eq_of_le hb with h2 | h2
    · have := h _ _ _ _ h2 hx hy; omega
    · rw [← h2, hx] at hy; cases hy; omega
theorem up_one (r : Rcd) : Up [r] := fun i j x y hij hx hy => by
  cases j with
  | zero => omega
  | succ j => simp at hy
theorem Fine.getD_up {M : List Per} (hF : Fine M) {id : Int} (h : there M id = true) : Up (M.getD (place M id) default).recs := by
  obtain ⟨p, hp, hid, hd⟩ := there_at h
  rw [hd]; exact hF.ups p (List.mem_of_getElem? hp)
theorem fine_hire {M : List Per} (hF : Fine M) (id : Int) (r : Rcd) : Fine (hire M id r).1 := by
  unfold hire
  split
  · exact hF
  · split
    · exact hF
    · rename_i h1 h2
      split
      · exact hF
      · have hle := lead_le (fun p : Per => decide (p.id < id)) M
        refine ⟨inc_with hF.inc (Nat.le_refl _) hle (fun a y ha hy => ahead ha hy) (fun b y hb hy => behind hF (by simpa using h2) hb hy), fun q hq => ?_⟩
        rcases mem_with hq with rfl | hq
        · exact up_one r
        · exact hF.ups q hq
theorem fine_change {M : List Per} (hF : Fine M) (id : Int) (r : Rcd) : Fine (change M id r).1 := by
  unfold change
  split
  · exact hF
  · split
    · exact hF
    · rename_i h1 h2
      split
      · exact hF
      · have ht : there M id = true := by simpa using h2
        exact hF.put ht rfl (up_with (hF.getD_up ht) r)
theorem fine_leave {M : List Per} (hF : Fine M) (id t : Int) : Fine (leave M id t).1 := by
  unfold leave
  split
  · exact hF
  · rename_i h2
    have ht : there M id = true := by simpa using h2
    split
    · exact hF
    · exact hF.put ht rfl (hF.getD_up ht)
theorem fine_claim {M : List Per} (hF : Fine M) (id : Int) (o : Ord) : Fine (claim M id o).1 := by
  unfold claim
  split
  · exact hF
  · rename_i h2
    have ht : there M id = true := by simpa using h2
    split
    · exact hF
    · split
      · exact hF
      · split
        · exact hF
        · exact hF.put ht rfl (hF.getD_up ht)
/-- Few people, records, orders. -/
structure Few (k : Nat) (M : List Per) : Prop where
  len : M.length ≤ 50
  recs : ∀ p ∈ M, p.recs.length ≤ k
  ords : ∀ p ∈ M, p.ords.length ≤ 8
theorem Few.nil (k : Nat) : Few k [] := ⟨by simp, (fun p h => by cases h), (fun p h => by cases h)⟩
theorem Few.more {k k' : Nat} {M : List Per} (h : Few k M) (hk : k ≤ k') : Few k' M := ⟨h.len, fun p hp => Nat.le_trans (h.recs p hp) hk, h.ords⟩
theorem Few.getD {k : Nat} {M : List Per} (h : Few k M) {id : Int} (ht : there M id = true) : (M.getD (place M id) default).recs.length ≤ k ∧ (M.getD (place M id) default).ords.length ≤ 8 := by
  obtain ⟨p, hp, hid, hd⟩ := there_at ht
  rw [hd]; exact ⟨h.recs p (List.mem_of_getElem? hp), h.ords p (List.mem_of_getElem? hp)⟩
theorem Few.put {k : Nat} {M : List Per} (h : Few k M) {id : Int} (ht : there M id = true) {p' : Per} (h1 : p'.recs.length ≤ k) (h2 : p'.ords.length ≤ 8) : Few k (with_ M (place M id) (place M id + 1) p') := by
  obtain ⟨p, hp, hid, hd⟩ := there_at ht
  have hlt : place M id < M.length := (List.getElem?_eq_some_iff.1 hp).1
  refine ⟨?_, fun q hq => ?_, fun q hq => ?_⟩
  · rw [with_len _ (Nat.le_of_lt hlt)]; have := h.len; omega
  · rcases mem_with hq with rfl | hq
    · exact h1
    · exact h.recs q hq
  · rcases mem_with hq with rfl | hq
    · exact h2
    · exact h.ords q hq
theorem few_hire {k : Nat} {M : List Per} (h : Few k M) (hk : 1 ≤ k) (id : Int) (r : Rcd) : Few k (hire M id r).1 := by
  unfold hire
  split
  · exact h
  · split
    · exact h
    · split
      · exact h
      · rename_i h50
        have hle : place M id ≤ M.length := lead_le (fun p : Per => decide (p.id < id)) M
        refine ⟨?_, fun q hq => ?_, fun q hq => ?_⟩
        · show (with_ M (place M id) (place M id) _).length ≤ 50
          rw [with_len _ hle]
          omega
        · rcases mem_with hq with rfl | hq
          · simpa using hk
          · exact h.recs q hq
        · rcases mem_with hq with rfl | hq
          · simp
          · exact h.ords q hq
theorem upTo_mono (l : List Rcd) (r : Rcd) : upTo l (r.frm - 1) ≤ upTo l r.frm := by
  rcases Nat.lt_or_ge (upTo l r.frm) (upTo l (r.frm - 1)) with h1 | h1
  · obtain ⟨x, hx⟩ : ∃ x, l[upTo l r.frm]? = some x := ⟨_, List.getElem?_eq_getElem (Nat.lt_of_lt_of_le h1 (lead_le _ l))⟩
    have a := lead_yes (f := fun q : Rcd => decide (q.frm ≤ r.frm - 1)) h1 hx
    have b := lead_no (f := fun q : Rcd => decide (q.frm ≤ r.frm)) hx
    simp only [decide_eq_true_eq, decide_eq_false_iff_not] at a b
    omega
  · exact h1
theorem few_change {k : Nat} {M : List Per} (h : Few k M) (id : Int) (r : Rcd) : Few (k + 1) (change M id r).1 := by
  unfold change
  split
  · exact h.more (by omega)
  · split
    · exact h.more (by omega)
    · rename_i h1 h2
      split
      · exact h.more (by omega)
      · have ht : there M id = true := by simpa using h2
        obtain ⟨g1, g2⟩ := h.getD ht
        refine (h.more (Nat.le_succ k)).put ht ?_ g2
        have hle := upTo_mono (M.getD (place M id) default).recs r
        have hl : upTo (M.getD (place M id) default).recs r.frm ≤ (M.getD (place M id) default).recs.length := lead_le _ _
        show (with_ _ _ _ _).length ≤ k + 1
        rw [with_len _ (Nat.le_trans hle hl)]
        omega
theorem few_leave {k : Nat} {M : List Per} (h : Few k M) (id t : Int) : Few k (leave M id t).1 := by
  unfold leave
  split
  · exact h
  · rename_i h2
    have ht : there M id = true := by simpa using h2
    split
    · exact h
    · exact h.put ht (h.getD ht).1 (h.getD ht).2
theorem few_claim {k : Nat} {M : List Per} (h : Few k M) (id : Int) (o : Ord) : Few k (claim M id o).1 := by
  unfold claim
  split
  · exact h
  · rename_i h2
    have ht : there M id = true := by simpa using h2
    split
    · exact h
    · split
      · exact h
      · split
        · exact h
        · rename_i h8
          refine h.put ht (h.getD ht).1 ?_
          show (_ ++ [o]).length ≤ 8
          rw [List.length_append, List.length_singleton]
          omega
end PMa
