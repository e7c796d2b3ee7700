/-
  A region that draws its order, reads cells, calls what makes memory, and at its end stores into a cell that it has read: the cells are as they were until that store, which waits for every read.
-/
import Derived.Test.YtbnnmakmgleikaaBase
import Derived.Deep.RegionHeld3
set_option linter.unusedVariables false
namespace Go
section
variable {P : Program} {ops : Array Oper} {Q : Exit → Act → World → Prop} {md : Region.Mode} {S : World → Prop} {z : Nat}

/-- What has come up came up behind all that it waits for. -/
def Due (md : Region.Mode) (ops : Array Oper) (L : Array Bool) : Prop := ∀ k o, ops[k]? = some o → L.getD k false = true → ∀ e ∈ o.after, Region.binds md e = true → L.getD e.on false = true
theorem Due.start (n : Nat) : Due md ops (Array.replicate n false) := fun k o _ h => by
  exfalso
  simp only [Array.getD_eq_getD_getElem?, Array.getElem?_replicate] at h
  split at h <;> cases h
theorem Due.step {L : Array Bool} {j : Nat} (h : Due md ops L) (hj : j ∈ Region.ready md ops L) : Due md ops (L.setIfInBounds j true) := fun k o ho hk e he hb => by
  by_cases hjk : j = k
  · subst hjk
    obtain ⟨_, o', ho', hall⟩ := mem_ready.1 hj
    rw [ho] at ho'; cases ho'
    exact getD_set_true (hall e he hb)
  · rw [getD_set_ne false hjk] at hk
    exact getD_set_true (h k o ho hk e he hb)
/-- One waits for another; so does the first of a row for its last. -/
def waits (md : Region.Mode) (ops : Array Oper) (k m : Nat) : Bool := match ops[k]? with
  | some o => o.after.any fun e => Region.binds md e && e.on == m
  | none => false
def trail (md : Region.Mode) (ops : Array Oper) : Nat → List Nat → Bool
  | _, [] => true
  | k, m :: l => waits md ops k m && trail md ops m l
def tail : Nat → List Nat → Nat
  | k, [] => k
  | _, m :: l => tail m l
theorem waits_of {k m : Nat} (h : waits md ops k m = true) : ∃ o, ops[k]? = some o ∧ ∃ e ∈ o.after, Region.binds md e = true ∧ e.on = m := by
  unfold waits at h
  split at h
  · rename_i o ho
    obtain ⟨i, hi, h2⟩ := Array.any_eq_true.1 h
    simp only [Bool.and_eq_true, beq_iff_eq] at h2
    exact ⟨o, ho, _, Array.getElem_mem hi, h2.1, h2.2⟩
  · cases h
theorem trail_due {L : Array Bool} (hD : Due md ops L) : ∀ (l : List Nat) (k : Nat), trail md ops k l = true → L.getD k false = true → L.getD (tail k l) false = true
  | [], k, _, hk => hk
  | m :: l, k, h, hk => by
    unfold trail at h
    rw [Bool.and_eq_true] at h
    obtain ⟨o, ho, e, he, hb, rfl⟩ := waits_of h.1
    exact trail_due hD l _ h.2 (hD k o ho hk e he hb)
/-- What waits for something does not come up ahead of it. -/
theorem not_yet {L : Array Bool} (hD : Due md ops L) {m i : Nat} {l : List Nat} (h : trail md ops z (m :: l) = true) (hl : tail m l = i) (hi : L.getD i true = false) : ¬ z ∈ Region.ready md ops L := fun hz => by
  unfold trail at h
  rw [Bool.and_eq_true] at h
  obtain ⟨o, ho, e, he, hb, rfl⟩ := waits_of h.1
  obtain ⟨_, o', ho', hall⟩ := mem_ready.1 hz
  rw [ho] at ho'; cases ho'
  have h1 := trail_due hD l _ h.2 (hall e he hb)
  rw [hl] at h1
  rcases Nat.lt_or_ge i L.size with h' | h'
  · simp [h'] at h1 hi; rw [hi] at h1; cases h1
  · simp [Array.getElem?_eq_none h'] at h1

/-- In whatever order they come up from here on, S holds behind each but one. -/
def upTill (P : Program) (md : Region.Mode) (ops : Array Oper) (Q : Exit → Act → World → Prop) (S : World → Prop) (z : Nat) : Nat → Array Bool → Act → World → Prop
  | 0, L, a, w => Region.ready md ops L = [] ∧ Q .normal a w
  | f + 1, L, a, w => (Region.ready md ops L = [] → Q .normal a w) ∧ ∀ i ∈ Region.ready md ops L, wpOp P ops Q i (fun a' w' => (i ≠ z → S w') ∧ upTill P md ops Q S z f (L.setIfInBounds i true) a' w') a w
theorem any_of_till : ∀ (f : Nat) (L : Array Bool) (a : Act) (w : World), upTill P md ops Q S z f L a w → wpAny P md ops Q f L a w
  | 0, _, _, _, h => h
  | f + 1, _, _, _, h => ⟨h.1, fun i hi => wpOp_mono (fun a' w' h' => any_of_till f _ a' w' h'.2) (h.2 i hi)⟩
theorem till_first {i : Nat} {oi : Oper} {v : Value} (hi : ops[i]? = some oi) (hsel : ∀ (j : Nat) (o : Oper) cs b, ops[j]? = some o → o.op ≠ .select cs b)
    (hQ : ∀ c a w, Q (.panic c) (a.put oi.dst v) w → Q (.panic c) a w) (hz : ∀ L, Due md ops L → L.getD i true = false → ¬ z ∈ Region.ready md ops L) :
    ∀ (f : Nat) (L : Array Bool) (a : Act) (w : World),
      (∀ j oj, ops[j]? = some oj → j ≠ i → L.getD j true = false → (∀ e ∈ oj.after, Region.binds md e = true → e.on ≠ i) → oi.apart ops oj = true) →
      i ∈ Region.ready md ops L → Due md ops L → YieldsIf P ops S oi v a → S w →
      upTill P md ops Q S z f (L.setIfInBounds i true) (a.put oi.dst v) w → upTill P md ops Q S z (f + 1) L a w := by
  intro f
  induction f with
  | zero =>
    intro L a w _ hr _ hy hS H
    refine ⟨fun h => (by rw [h] at hr; cases hr), fun j hj => ?_⟩
    by_cases hji : j = i
    · subst hji; exact hy.wpOp hi hS ⟨fun _ => hS, H⟩
    · have := ready_mono hj hji
      rw [H.1] at this
      cases this
  | succ f ih =>
    intro L a w hfree hr hD hy hS H
    refine ⟨fun h => (by rw [h] at hr; cases hr), fun j hj => ?_⟩
    by_cases hji : j = i
    · subst hji; exact hy.wpOp hi hS ⟨fun _ => hS, H⟩
    · have hjz : j ≠ z := fun e => hz L hD (mem_ready.1 hr).1 (e ▸ hj)
      have h1 := H.2 j (ready_mono hj hji)
      obtain ⟨hjun, oj, hoj, hall⟩ := mem_ready.1 hj
      have hnot : ∀ e ∈ oj.after, Region.binds md e = true → e.on ≠ i := fun e he hb heq => by
        have h1 := hall e he hb
        have h0 := (mem_ready.1 hr).1
        rw [heq] at h1
        rcases Nat.lt_or_ge i L.size with h' | h'
        · simp [h'] at h0 h1; rw [h0] at h1; cases h1
        · simp [Array.getElem?_eq_none h'] at h1
      have h2 := wpOp_putIf hoj (hfree j oj hoj hji hjun hnot) (fun cs b => hsel i oi cs b hi) (fun cs b => hsel j oj cs b hoj) hQ hy h1
      refine wpOp_mono (fun a' w' h3 => ⟨h3.2.1, ih (L.setIfInBounds j true) a' w' (fun k ok hk hki hun hno => hfree k ok hk hki ?_ hno) (ready_mono hr (Ne.symm hji)) (hD.step hj) h3.1 (h3.2.1 hjz) ?_⟩) h2
      · by_cases hjk : j = k
        · subst hjk; exact hjun
        · rw [getD_set_ne true hjk] at hun; exact hun
      · rw [Array.setIfInBounds_comm _ _ hji]
        exact h3.2.2
/-- The same, once what has come up is due. -/
def dueTill (P : Program) (md : Region.Mode) (ops : Array Oper) (Q : Exit → Act → World → Prop) (S : World → Prop) (z : Nat) (f : Nat) (L : Array Bool) (a : Act) (w : World) : Prop := Due md ops L → upTill P md ops Q S z f L a w
theorem till_take {i m : Nat} {l : List Nat} {oi : Oper} {v : Value} {f : Nat} {L : Array Bool} {a : Act} {w : World} (hi : ops[i]? = some oi)
    (hs : Region.noSelect ops = true) (hf : Region.free md ops L i = true) (hr : (Region.ready md ops L).contains i = true) (ht : trail md ops z (m :: l) = true) (hl : tail m l = i)
    (hQ : ∀ c a w, Q (.panic c) (a.put oi.dst v) w → Q (.panic c) a w) (hy : YieldsIf P ops S oi v a) (hS : S w)
    (h : dueTill P md ops Q S z f (L.setIfInBounds i true) (a.put oi.dst v) w) : dueTill P md ops Q S z (f + 1) L a w := fun hD =>
  have hr' : i ∈ Region.ready md ops L := by simpa using hr
  till_first hi (Region.noSelect_spec hs) hQ (fun L' hD' hi' => not_yet hD' ht hl hi') f L a w (Region.free_spec hi hf) hr' hD hy hS (h (hD.step hr'))
theorem till_all {rs : List Nat} {f : Nat} {L : Array Bool} {a : Act} {w : World} (hr : Region.ready md ops L = rs) (hne : rs ≠ [])
    (h : ∀ i ∈ rs, wpOp P ops Q i (fun a' w' => (i ≠ z → S w') ∧ dueTill P md ops Q S z f (L.setIfInBounds i true) a' w') a w) : dueTill P md ops Q S z (f + 1) L a w := fun hD =>
  ⟨fun h0 => absurd (hr ▸ h0) hne, fun i hi => wpOp_mono (fun a' w' h' => ⟨h'.1, h'.2 (hD.step hi)⟩) (h i (hr ▸ hi))⟩
theorem till_step {i : Nat} {o : Oper} {f : Nat} {L : Array Bool} {a : Act} {w : World} (ho : ops[i]? = some o)
    (h : ∀ K' : Act → World → Prop, Shut (∀ a w, (i ≠ z → S w) → ((i ≠ z → S w) → dueTill P md ops Q S z f (L.setIfInBounds i true) a w) → K' a w) → if Region.wanted o (yielded ops a.tmps) = true then Oper.wp P o a w K' Q else K' (a.put o.dst undef) w) :
    wpOp P ops Q i (fun a' w' => (i ≠ z → S w') ∧ dueTill P md ops Q S z f (L.setIfInBounds i true) a' w') a w :=
  wpOp_step ho (fun K' hK => h K' (fun a w hS hW => hK a w ⟨hS, hW hS⟩))
theorem till_one {i : Nat} {f : Nat} {L : Array Bool} {a : Act} {w : World} (hr : Region.ready md ops L = [i])
    (h : wpOp P ops Q i (fun a' w' => (i ≠ z → S w') ∧ dueTill P md ops Q S z f (L.setIfInBounds i true) a' w') a w) : dueTill P md ops Q S z (f + 1) L a w :=
  till_all hr (by simp) (fun j hj => by obtain rfl : j = i := by simpa using hj
                                        exact h)
theorem till_two {i j : Nat} {f : Nat} {L : Array Bool} {a : Act} {w : World} (hr : Region.ready md ops L = [i, j])
    (h : wpOp P ops Q i (fun a' w' => (i ≠ z → S w') ∧ dueTill P md ops Q S z f (L.setIfInBounds i true) a' w') a w)
    (h' : wpOp P ops Q j (fun a' w' => (j ≠ z → S w') ∧ dueTill P md ops Q S z f (L.setIfInBounds j true) a' w') a w) : dueTill P md ops Q S z (f + 1) L a w :=
  till_all hr (by simp) (fun k hk => by
    rcases List.mem_cons.1 hk with rfl | hk
    · exact h
    · obtain rfl : k = j := by simpa using hk
      exact h')
theorem till_done {L : Array Bool} {a : Act} {w : World} (hr : Region.ready md ops L = []) (h : Q .normal a w) : ∀ f, dueTill P md ops Q S z f L a w
  | 0, _ => ⟨hr, h⟩
  | _ + 1, _ => ⟨fun _ => h, by rw [hr]; simp⟩
/-- The beginning. -/
theorem wp_region_till (z : Nat) (S : World → Prop) {id : Nat} {a : Act} {w : World} (hm : P.follows .mixedOrders = true) (hS : S w.drew)
    (h : S w.drew → dueTill P .any ops Q S z ops.size (Array.replicate ops.size false) a w.drew) : (Code.region id ops true).wp P Q a w :=
  wp_region_any hm (any_of_till _ _ _ _ (h hS (Due.start _)))
end
end Go
