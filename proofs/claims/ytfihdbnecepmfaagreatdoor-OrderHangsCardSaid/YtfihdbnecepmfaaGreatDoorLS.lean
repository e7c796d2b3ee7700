/-
  Rules that hang on one another all round: from a rule that leads over as many steps as there are rules it leads on for ever; a rule that no order takes is such a one. Plain facts; no program is named here.
  What the statement's own 'stuck' answers: does a rule hang on others all round?
-/
import Derived.Test.YtfihdbnecepmfaaGreatDoorSM
import Derived.Test.YtfihdbnecepmfaaGreatDoorRA

set_option linter.unusedVariables false
namespace POrd

/-- Does it lead from r over m steps? -/
def led (n : Nat) (H : Nat → Nat → Bool) : Nat → Nat → Bool
  | 0, r => decide (r < n)
  | m + 1, r => decide (r < n) && (List.range n).any fun k => H r k && led n H m k
theorem led_lt {n : Nat} {H : Nat → Nat → Bool} : ∀ {m r : Nat}, led n H m r = true → r < n
  | 0, r, h => by unfold led at h; simpa using h
  | m + 1, r, h => by unfold led at h; rw [Bool.and_eq_true] at h; simpa using h.1
theorem led_succ {n : Nat} {H : Nat → Nat → Bool} {m r : Nat} : led n H (m + 1) r = true ↔ r < n ∧ ∃ k, k < n ∧ H r k = true ∧ led n H m k = true := by
  show (decide (r < n) && (List.range n).any fun k => H r k && led n H m k) = true ↔ _
  rw [Bool.and_eq_true, List.any_eq_true]
  constructor
  · rintro ⟨h1, k, hk, h2⟩
    rw [Bool.and_eq_true] at h2
    exact ⟨by simpa using h1, k, by simpa using hk, h2.1, h2.2⟩
  · rintro ⟨h1, k, hk, h2, h3⟩
    exact ⟨by simpa using h1, k, by simpa using hk, by rw [Bool.and_eq_true]; exact ⟨h2, h3⟩⟩
theorem led_less {n : Nat} {H : Nat → Nat → Bool} : ∀ {m r : Nat}, led n H (m + 1) r = true → led n H m r = true
  | 0, r, h => by unfold led; simpa using led_lt h
  | m + 1, r, h => by
    obtain ⟨h1, k, hk, h2, h3⟩ := led_succ.1 h
    exact led_succ.2 ⟨h1, k, hk, h2, led_less h3⟩
theorem led_same {n : Nat} {H : Nat → Nat → Bool} {m : Nat} (h : ∀ r, led n H m r = true → led n H (m + 1) r = true) : ∀ r, led n H (m + 1) r = true → led n H (m + 2) r = true := fun r hr => by
  obtain ⟨h1, k, hk, h2, h3⟩ := led_succ.1 hr
  exact led_succ.2 ⟨h1, k, hk, h2, h k h3⟩
theorem led_few {n : Nat} {H : Nat → Nat → Bool} : ∀ m, ((List.range n).filter (led n H m)).length + m ≤ n ∨ ∀ r, led n H m r = true → led n H (m + 1) r = true
  | 0 => .inl (by have := List.length_filter_le (led n H 0) (List.range n); rw [List.length_range] at this; omega)
  | m + 1 => by
    rcases led_few (n := n) (H := H) m with h | h
    · by_cases hx : ∃ r, led n H m r = true ∧ led n H (m + 1) r = false
      · obtain ⟨r, h1, h2⟩ := hx
        have hn : (r :: (List.range n).filter (led n H (m + 1))).Nodup := by
          rw [List.nodup_cons]
          exact ⟨fun k => by rw [List.mem_filter, h2] at k; exact absurd k.2 (by decide), List.nodup_range.filter _⟩
        have := sub_len _ ((List.range n).filter (led n H m)) hn (fun x hx => by
          rw [List.mem_cons] at hx
          rw [List.mem_filter]
          rcases hx with rfl | hx
          · exact ⟨by simpa using led_lt h1, h1⟩
          · rw [List.mem_filter] at hx; exact ⟨hx.1, led_less hx.2⟩)
        rw [List.length_cons] at this
        exact .inl (by omega)
      · exact .inr (led_same fun r hr => by
          cases hc : led n H (m + 1) r with
          | true => rfl
          | false => exact absurd ⟨r, hr, hc⟩ hx)
    · exact .inr (led_same h)
/-- Over as many steps as there are rules: then over one more. -/
theorem led_all {n : Nat} {H : Nat → Nat → Bool} {r : Nat} (h : led n H n r = true) : ∃ k, k < n ∧ H r k = true ∧ led n H n k = true := by
  have h2 : led n H (n + 1) r = true := by
    rcases led_few (n := n) (H := H) n with k | k
    · have hl : ((List.range n).filter (led n H n)).length = 0 := by omega
      rw [List.length_eq_zero_iff, List.filter_eq_nil_iff] at hl
      exact absurd h (hl r (by simpa using led_lt h))
    · exact k r h
  exact (led_succ.1 h2).2
/-- The rules that those of s hang on. -/
def stepS (n : Nat) (H : Nat → Nat → Bool) (s : List Bool) : List Bool := (List.range n).map fun k => (List.range n).any fun i => s.getD i false && H i k
theorem stepS_at {n : Nat} {H : Nat → Nat → Bool} {s : List Bool} {k : Nat} : (stepS n H s).getD k false = true ↔ k < n ∧ ∃ i, i < n ∧ s.getD i false = true ∧ H i k = true := by
  unfold stepS
  rw [List.getD_eq_getElem?_getD, List.getElem?_map]
  by_cases hk : k < n
  · rw [List.getElem?_range hk]
    show ((List.range n).any fun i => s.getD i false && H i k) = true ↔ _
    rw [List.any_eq_true]
    constructor
    · rintro ⟨i, hi, h⟩; rw [Bool.and_eq_true] at h; exact ⟨hk, i, by simpa using hi, h.1, h.2⟩
    · rintro ⟨-, i, hi, h1, h2⟩; exact ⟨i, by simpa using hi, by rw [Bool.and_eq_true]; exact ⟨h1, h2⟩⟩
  · rw [List.getElem?_eq_none (by rw [List.length_range]; omega)]
    constructor
    · intro h; cases h
    · rintro ⟨h, -⟩; exact absurd h hk
/-- Is there one? -/
def anyS (s : List Bool) : Bool := s.contains true
theorem anyS_iff {s : List Bool} : anyS s = true ↔ ∃ i, s.getD i false = true := by
  unfold anyS
  rw [List.contains_iff_mem]
  constructor
  · intro h
    obtain ⟨i, hi, e⟩ := List.getElem_of_mem h
    exact ⟨i, by rw [List.getD_eq_getElem?_getD, List.getElem?_eq_getElem hi, e]; rfl⟩
  · rintro ⟨i, h⟩
    rw [List.getD_eq_getElem?_getD] at h
    cases e : s[i]? with
    | none => rw [e] at h; cases h
    | some b => rw [e] at h; exact List.mem_of_getElem? (by rw [e]; exact congrArg some h)
/-- The steps from s on. -/
def stuckF (n : Nat) (H : Nat → Nat → Bool) : Nat → List Bool → Bool
  | 0, _ => true
  | f + 1, s => if anyS (stepS n H s) then stuckF n H f (stepS n H s) else false
theorem stuckF_iff {n : Nat} {H : Nat → Nat → Bool} : ∀ (f : Nat) (s : List Bool), (∃ i, i < n ∧ s.getD i false = true) → (stuckF n H f s = true ↔ ∃ i, i < n ∧ s.getD i false = true ∧ led n H f i = true)
  | 0, s, h => by
    constructor
    · intro _
      obtain ⟨i, hi, e⟩ := h
      exact ⟨i, hi, e, by unfold led; simpa using hi⟩
    · intro _; rfl
  | f + 1, s, h => by
    unfold stuckF
    by_cases ha : anyS (stepS n H s) = true
    · rw [if_pos ha]
      obtain ⟨k, hk⟩ := anyS_iff.1 ha
      rw [stuckF_iff f _ ⟨k, (stepS_at.1 hk).1, hk⟩]
      constructor
      · rintro ⟨k, hk, hs, hl⟩
        obtain ⟨-, i, hi, e, hh⟩ := stepS_at.1 hs
        exact ⟨i, hi, e, led_succ.2 ⟨hi, k, hk, hh, hl⟩⟩
      · rintro ⟨i, hi, e, hl⟩
        obtain ⟨-, k, hk, hh, hl⟩ := led_succ.1 hl
        exact ⟨k, hk, stepS_at.2 ⟨hk, i, hi, e, hh⟩, hl⟩
    · rw [if_neg ha]
      constructor
      · intro h; cases h
      · rintro ⟨i, hi, e, hl⟩
        obtain ⟨-, k, hk, hh, hl⟩ := led_succ.1 hl
        exact absurd (anyS_iff.2 ⟨k, stepS_at.2 ⟨hk, i, hi, e, hh⟩⟩) ha
def stuck (n : Nat) (H : Nat → Nat → Bool) (r : Nat) : Bool := stuckF n H n ((List.replicate n false).set r true)
theorem one_at {n r i : Nat} (hr : r < n) : ((List.replicate n false).set r true).getD i false = true ↔ i = r := by
  rw [List.getD_eq_getElem?_getD, List.getElem?_set]
  by_cases e : r = i
  · subst e
    rw [if_pos rfl, if_pos (by rw [List.length_replicate]; exact hr)]
    simp
  · rw [if_neg e]
    constructor
    · intro h
      rw [List.getElem?_replicate] at h
      split at h <;> cases h
    · intro h; exact absurd h.symm e
theorem stuck_iff {n : Nat} {H : Nat → Nat → Bool} {r : Nat} (hr : r < n) : stuck n H r = true ↔ led n H n r = true := by
  unfold stuck
  rw [stuckF_iff _ _ ⟨r, hr, (one_at hr).2 rfl⟩]
  constructor
  · rintro ⟨i, hi, e, hl⟩; rw [(one_at hr).1 e] at hl; exact hl
  · intro h; exact ⟨r, hr, (one_at hr).2 rfl, h⟩
/-- From one that is stuck a step leads to one that is stuck. -/
theorem stuck_on {n : Nat} {H : Nat → Nat → Bool} {r : Nat} (hr : r < n) (h : stuck n H r = true) : ∃ k, k < n ∧ H r k = true ∧ stuck n H k = true := by
  obtain ⟨k, hk, hh, hl⟩ := led_all ((stuck_iff hr).1 h)
  exact ⟨k, hk, hh, (stuck_iff hk).2 hl⟩
/-- Where no rule may stand next, those that are not in the order are stuck. -/
theorem led_out {n : Nat} {H : Nat → Nat → Bool} {l : List Nat} (h : next n H l = none) : ∀ (m r : Nat), r < n → r ∉ l → led n H m r = true
  | 0, r, hr, _ => by unfold led; simpa using hr
  | m + 1, r, hr, hl => by
    have hf := least_no h r hr
    have : ∃ k, k < n ∧ H r k = true ∧ k ∉ l := by
      refine Classical.byContradiction fun hx => ?_
      have : free n H l r = true := free_iff.2 ⟨hl, fun k hk hh => Classical.byContradiction fun hn => hx ⟨k, hk, hh, hn⟩⟩
      rw [hf] at this
      cases this
    obtain ⟨k, hk, hh, hn⟩ := this
    exact led_succ.2 ⟨hr, k, hk, hh, led_out h m k hk hn⟩
/-- What the order is: each rule hangs on none but those ahead. -/
def Ahd (n : Nat) (H : Nat → Nat → Bool) (l : List Nat) : Prop := ∀ j (hj : j < l.length), ∀ k, k < n → H l[j] k = true → k ∈ l.take j
theorem ahd_snoc {n : Nat} {H : Nat → Nat → Bool} {l : List Nat} {i : Nat} (h : Ahd n H l) (hi : ∀ k, k < n → H i k = true → k ∈ l) : Ahd n H (l ++ [i]) := by
  intro j hj k hk hh
  rw [List.length_append, List.length_singleton] at hj
  by_cases e : j < l.length
  · rw [List.getElem_append_left e] at hh
    rw [List.take_append_of_le_length (by omega)]
    exact h j e k hk hh
  · have ej : j = l.length := by omega
    subst ej
    rw [List.getElem_append_right (Nat.le_refl _)] at hh
    simp only [Nat.sub_self, List.getElem_cons_zero] at hh
    rw [List.take_append_of_le_length (Nat.le_refl _), List.take_length]
    exact hi k hk hh
/-- Sort ends so or so. -/
theorem sortF_ends {n : Nat} {H : Nat → Nat → Bool} : ∀ (f : Nat) (l : List Nat), Good0 n l → Ahd n H l → n ≤ l.length + f → (∃ l', sortF n H f l = (some l', 0) ∧ l'.length = n ∧ Good0 n l' ∧ Ahd n H l') ∨ (∃ at', sortF n H f l = (none, at') ∧ at' < n ∧ stuck n H at' = true)
  | 0, l, g, a, hf => .inl ⟨l, rfl, by have := good0_len g; omega, g, a⟩
  | f + 1, l, g, a, hf => by
    by_cases hl : l.length < n
    · cases hn : next n H l with
      | none =>
        obtain ⟨h1, h2, -⟩ := first_is g hl
        exact .inr ⟨_, sortF_stop hl hn, h1, (stuck_iff h1).2 (led_out hn n _ h1 h2)⟩
      | some i =>
        rw [sortF_more hl hn]
        exact sortF_ends f _ (good0_snoc g hn) (ahd_snoc a (free_iff.1 (least_is hn).2.1).2) (by rw [List.length_append, List.length_singleton]; omega)
    · exact .inl ⟨l, sortF_done hl, by have := good0_len g; omega, g, a⟩
end POrd

set_option linter.unusedVariables false
namespace Go.Proofs.YtfihdbnecepmfaaGreatDoor
open Go.RowKit
open PTree (R Ex Tr Rl Row Wf X0)
open PCheck (Xp)

/-- The marks so far: of the rules 0 .. j - 1 of s, and of rule j for the places 0 .. k - 1. -/
def Pm (n : Nat) (H : Nat → Nat → Bool) (s : List Bool) (j k : Nat) (m : List Bool) : Prop := ∀ k', k' < n → (m.getD k' false = true ↔ (∃ i, i < j ∧ s.getD i false = true ∧ H i k' = true) ∨ (k' < k ∧ s.getD j false = true ∧ H j k' = true))
theorem getD_rep {n t : Nat} : (List.replicate n false).getD t false = false := by
  rw [List.getD_eq_getElem?_getD, List.getElem?_replicate]
  split <;> rfl
theorem pm_zero {n : Nat} {H : Nat → Nat → Bool} {s : List Bool} : Pm n H s 0 0 (List.replicate n false) := fun k' hk => by
  rw [getD_rep]
  constructor
  · intro h; cases h
  · rintro (⟨i, hi, -⟩ | ⟨hi, -⟩) <;> exact absurd hi (Nat.not_lt_zero _)
theorem pm_skip {n : Nat} {H : Nat → Nat → Bool} {s m : List Bool} {j k : Nat} (h : Pm n H s j k m) (hs : ¬ (s.getD j false = true ∧ H j k = true)) : Pm n H s j (k + 1) m := fun k' hk => by
  rw [h k' hk]
  constructor
  · rintro (a | ⟨a, b⟩)
    · exact .inl a
    · exact .inr ⟨by omega, b⟩
  · rintro (a | ⟨a, b⟩)
    · exact .inl a
    · by_cases e : k' = k
      · subst e; exact absurd b hs
      · exact .inr ⟨by omega, b⟩
theorem getD_set {m : List Bool} {k t : Nat} (hk : k < m.length) : (m.set k true).getD t false = true ↔ t = k ∨ m.getD t false = true := by
  rw [List.getD_eq_getElem?_getD, List.getD_eq_getElem?_getD, List.getElem?_set]
  by_cases e : k = t
  · subst e; rw [if_pos rfl, if_pos hk]; simp
  · rw [if_neg e]
    constructor
    · exact .inr
    · rintro (a | a)
      · exact absurd a.symm e
      · exact a
theorem pm_set {n : Nat} {H : Nat → Nat → Bool} {s m : List Bool} {j k : Nat} (h : Pm n H s j k m) (hm : m.length = n) (hk : k < n) (h1 : s.getD j false = true) (h2 : H j k = true) : Pm n H s j (k + 1) (m.set k true) := fun k' hk' => by
  rw [getD_set (by omega), h k' hk']
  constructor
  · rintro (a | a | ⟨a, b⟩)
    · subst a; exact .inr ⟨by omega, h1, h2⟩
    · exact .inl a
    · exact .inr ⟨by omega, b⟩
  · rintro (a | ⟨a, b⟩)
    · exact .inr (.inl a)
    · by_cases e : k' = k
      · exact .inl e
      · exact .inr (.inr ⟨by omega, b⟩)
theorem pm_next {n : Nat} {H : Nat → Nat → Bool} {s m : List Bool} {j : Nat} (h : Pm n H s j n m) : Pm n H s (j + 1) 0 m := fun k' hk => by
  rw [h k' hk]
  constructor
  · rintro (⟨i, a, b⟩ | ⟨a, b⟩)
    · exact .inl ⟨i, by omega, b⟩
    · exact .inl ⟨j, by omega, b⟩
  · rintro (⟨i, a, b⟩ | ⟨a, b⟩)
    · by_cases e : i = j
      · subst e; exact .inr ⟨hk, b⟩
      · exact .inl ⟨i, by omega, b⟩
    · exact absurd a (Nat.not_lt_zero _)
theorem pm_end {n : Nat} {H : Nat → Nat → Bool} {s m : List Bool} (h : Pm n H s n 0 m) (hm : m.length = n) : m = POrd.stepS n H s := by
  have hl : (POrd.stepS n H s).length = n := by unfold POrd.stepS; rw [List.length_map, List.length_range]
  apply List.ext_getElem (by omega)
  intro t h1 h2
  have e1 : m.getD t false = m[t] := by rw [List.getD_eq_getElem?_getD, List.getElem?_eq_getElem h1]; rfl
  have e2 : (POrd.stepS n H s).getD t false = (POrd.stepS n H s)[t] := by rw [List.getD_eq_getElem?_getD, List.getElem?_eq_getElem h2]; rfl
  rw [← e1, ← e2, Bool.eq_iff_iff, h t (by omega), POrd.stepS_at]
  constructor
  · rintro (⟨i, a, b⟩ | ⟨a, b⟩)
    · exact ⟨by omega, i, a, b⟩
    · exact absurd a (Nat.not_lt_zero _)
  · rintro ⟨-, i, a, b⟩; exact .inl ⟨i, a, b⟩
theorem anyS_set {m : List Bool} {k : Nat} (hk : k < m.length) : POrd.anyS (m.set k true) = true := POrd.anyS_iff.2 ⟨k, (getD_set hk).2 (.inl rfl)⟩
theorem anyS_zero {n : Nat} : POrd.anyS (List.replicate n false) = false := by
  cases h : POrd.anyS (List.replicate n false) with
  | false => rfl
  | true => obtain ⟨i, hi⟩ := POrd.anyS_iff.1 h; rw [getD_rep] at hi; cases hi
set_option maxHeartbeats 6400000 in
set_option maxRecDepth 100000 in
theorem r11stuck_any {w : World} {n c rn rc : Nat} {A RA : Option Addr} {rs : List Rl} (hR : SlX rlR w RA rn (rwX rs)) (hE : SlX xpR w A n (xpX rs)) (hW : ∀ r ∈ rs, Wf X0 r.tree) (hn : n ≤ 1000) (hrn : rn ≤ 1000) {i : Nat} (hi : i < rn) :
    Calls Tryz.prog 25 #[.agg #[.slice RA rn rc, .slice A n c], .int .i64 (i : Nat)] w (FlagAns (POrd.stuck rn (POrd.hangs rs) i) w) := by
  obtain ⟨z, hz⟩ : ∃ z, POrd.stuck rn (POrd.hangs rs) i = z := ⟨_, rfl⟩
  rw [hz]
  obtain ⟨Q, hQ⟩ : ∃ Q, FlagAns z w = Q := ⟨_, rfl⟩
  rw [hQ]
  obtain ⟨L, hL⟩ : ∃ L, w.heap.size = L := ⟨_, rfl⟩
  have FIN : Hid (∀ (b : Bool) (w' : World), b = z → Below L w w' → Q (.returned (.bool b)) w') := Lib.hid (fun b w' e a => by rw [← hQ, e]; exact ⟨rfl, by rw [hL]; exact a⟩)
  have HZ : Hid (POrd.stuckF rn (POrd.hangs rs) rn ((List.replicate rn false).set i true) = z) := Lib.hid hz
  have CH := Lib.hid (fun (wa : World) (hb : Below L w wa) (j k : Nat) (hj : j < rn) (hk : k < rn) => r11hangs_any (c := c) (rc := rc) (hR.on (by rw [hL]; exact hb)) (hE.on (by rw [hL]; exact hb)) hW hn hrn hj hk)
  have hmk := fun W => make_rowB rn hrn W
  have gi : (i : Int) < (rn : Int) := by omega
  have gn : (rn : Int) ≤ 1000 := by omega
  obtain ⟨w1, hw1, XB, b1⟩ : ∃ w1, w.alloc (.cells #[.slice RA rn rc, .slice A n c] 33) = w1 ∧ Box w1 w.heap.size [.slice RA rn rc, .slice A n c] ∧ Below w.heap.size w w1 := ⟨_, rfl, Box.new _ _ [.slice RA rn rc, .slice A n c], (Below.refl _ _).alloc (Nat.le_refl _) _⟩
  have hs1 : w1.heap.size = L + 1 := by rw [← hw1, ← hL]; simp
  obtain ⟨w2, hw2, UR, b2⟩ : ∃ w2, w1.alloc (.cells (madeCells #[.bool false] rn) 4) = w2 ∧ RwB w2 w1.heap.size rn (List.replicate rn false) ∧ Below w1.heap.size w1 w2 := ⟨_, rfl, made_rwB w1 rn, (Below.refl _ _).alloc (Nat.le_refl _) _⟩
  rw [hL] at XB b1
  have XB2 := XB.on b2
  obtain ⟨x0, x1⟩ := bx2 XB
  obtain ⟨y0, y1⟩ := bx2 XB2
  have hsx := XB.1
  rw [hs1] at UR b2
  obtain ⟨u1, f1⟩ := UR.2 i hi
  have hus := World.block_lt_of_cell? w2 _ u1
  have HL := Lib.hid hL; have HS1 := Lib.hid hs1
  have HW1 := Lib.hid hw1; have HW2 := Lib.hid hw2
  have B2 : Hid (Below L w (w2.setCell ⟨L + 1, i, none⟩ (.bool true))) := Lib.hid ((b1.trans (b2.mono (Nat.le_succ _))).setCell (p := ⟨L + 1, i, none⟩) (Nat.le_succ L) (.bool true))
  have U2 := Lib.hid (UR.set hi true); have X2 := Lib.hid (XB2.far (p := ⟨L + 1, i, none⟩) (by show L + 1 ≠ L; omega) (.bool true))
  have S2 : Hid (L + 1 < (w2.setCell ⟨L + 1, i, none⟩ (.bool true)).heap.size) := Lib.hid (by simp only [World.size_setCell]; exact hus)
  clear hw1 hw2 b1 b2 XB XB2 UR hQ hE hR hs1 hL hz
  go_enter Tryz.func25, Tryz.ntmps25
  go_upto_region 1 with fail
  rw [HW1.out]
  (try rw [HL.out])
  go_upto_region 2 with fail
  rw [HW2.out]
  (try rw [HS1.out])
  clear HW1 HW2 x0 x1 hsx
  go_upto_region 3 with fail
  clear u1 f1 hus y0 y1
  generalize w2.setCell ⟨L + 1, i, none⟩ (.bool true) = w3 at *
  obtain ⟨q0, q1⟩ := bx2 X2.out
  have hq := X2.out.1
  go_wp2_with fail
  clear q0 q1 hq
  go_loopw [5, 21] (fun v x wx => ∃ (t X : Nat) (s : List Bool), t ≤ rn ∧ x = .int .i64 t ∧ v = .slice (some ⟨X, 0, none⟩) rn rn ∧ Hid (L < X) ∧ Hid (RwB wx X rn s) ∧ Hid (POrd.stuckF rn (POrd.hangs rs) (rn - t) s = z) ∧ Hid (Box wx L [.slice RA rn rc, .slice A n c]) ∧ Hid (Below L w wx)) (fun _ x _ => rn - (intOf x).toNat)
  case atStart => exact ⟨0, L + 1, _, Nat.zero_le _, rfl, rfl, Lib.hid (Nat.lt_succ_self L), U2, HZ, X2, B2⟩
  case round =>
    clear U2 HZ X2 B2 S2
    obtain ⟨t, X, s, ht, rfl, rfl, I1, I2, I3, I4, I5⟩ := hrel
    by_cases htn : t < rn
    · have gt : (t : Int) < (rn : Int) := by omega
      have ST : Hid ((if POrd.anyS (POrd.stepS rn (POrd.hangs rs) s) then POrd.stuckF rn (POrd.hangs rs) (rn - (t + 1)) (POrd.stepS rn (POrd.hangs rs) s) else false) = z) := Lib.hid (by
        have h := I3.out
        rw [show rn - t = (rn - (t + 1)) + 1 by omega] at h
        exact h)
      obtain ⟨w4, hw4, UR, b4⟩ : ∃ w4, wr.alloc (.cells (madeCells #[.bool false] rn) 4) = w4 ∧ RwB w4 wr.heap.size rn (List.replicate rn false) ∧ Below wr.heap.size wr w4 := ⟨_, rfl, made_rwB wr rn, (Below.refl _ _).alloc (Nat.le_refl _) _⟩
      obtain ⟨Y, hY⟩ : ∃ Y, wr.heap.size = Y := ⟨_, rfl⟩
      have hXY : X < Y := by rw [← hY]; exact World.block_lt_of_cell? wr _ (I2.out.2 0 (by omega)).1
      have hLY : L < Y := Nat.lt_trans I1.out hXY
      have R4 := Lib.hid (I2.out.on b4); have X4 := Lib.hid (I4.out.on b4)
      have B4 : Hid (Below L w w4) := Lib.hid (I5.out.trans (b4.mono (by rw [hY]; exact Nat.le_of_lt hLY)))
      rw [hY] at UR
      have U4 := Lib.hid UR; have HXY := Lib.hid hXY; have HLY := Lib.hid hLY
      have P0 : Hid (Pm rn (POrd.hangs rs) s 0 0 (List.replicate rn false)) := Lib.hid pm_zero
      have S4 : Hid (Y < w4.heap.size) := Lib.hid (World.block_lt_of_cell? w4 _ (UR.2 0 (by omega)).1)
      have AZ : POrd.anyS (List.replicate rn false) = false := anyS_zero
      obtain ⟨q0, q1⟩ := bx2 I4.out
      have hq := I4.out.1
      have HW4 := Lib.hid hw4; have HY := Lib.hid hY
      clear hw4 hY hXY hLY UR b4 I2 I3 I4 I5
      go_upto_region 6 with fail
      rw [HW4.out]
      (try rw [HY.out])
      clear HW4 HY q0 q1 hq
      go_wp2_with fail
      go_loopw [7, 29] (fun b x wx => ∃ (j : Nat) (m : List Bool), j ≤ rn ∧ x = .int .i64 j ∧ b = .bool (POrd.anyS m) ∧ Hid (RwB wx Y rn m) ∧ Hid (Pm rn (POrd.hangs rs) s j 0 m) ∧ Hid (RwB wx X rn s) ∧ Hid (Box wx L [.slice RA rn rc, .slice A n c]) ∧ Hid (Below L w wx) ∧ Hid (Y < wx.heap.size)) (fun _ x _ => rn - (intOf x).toNat)
      case atStart => exact ⟨0, _, Nat.zero_le _, rfl, by rw [AZ], U4, P0, R4, X4, B4, S4⟩
      case round =>
        clear U4 P0 R4 X4 B4 S4 AZ
        obtain ⟨j, m, hj, rfl, rfl, J1, J2, J3, J4, J5, J6⟩ := hrel
        by_cases hjn : j < rn
        · have gj : (j : Int) < (rn : Int) := by omega
          obtain ⟨u1, -⟩ := J3.out.2 j hjn
          have hus := World.block_lt_of_cell? wr _ u1
          obtain ⟨sj, hsj⟩ : ∃ b, s.getD j false = b := ⟨_, rfl⟩
          rw [hsj] at u1
          have HSJ := Lib.hid hsj
          obtain ⟨q0, q1⟩ := bx2 J4.out
          have hq := J4.out.1
          clear hsj
          go_wp2_with fail
          clear u1 hus q0 q1 hq
          go_loopw [7, 37] (fun b x wx => ∃ (k : Nat) (m : List Bool), k ≤ rn ∧ x = .int .i64 k ∧ b = .bool (POrd.anyS m) ∧ Hid (RwB wx Y rn m) ∧ Hid (Pm rn (POrd.hangs rs) s j k m) ∧ Hid (RwB wx X rn s) ∧ Hid (Box wx L [.slice RA rn rc, .slice A n c]) ∧ Hid (Below L w wx) ∧ Hid (Y < wx.heap.size)) (fun _ x _ => rn - (intOf x).toNat)
          case atStart => exact ⟨0, m, Nat.zero_le _, rfl, rfl, J1, J2, J3, J4, J5, J6⟩
          case round =>
            clear J1 J2 J3 J4 J5 J6
            obtain ⟨k, m, hk, rfl, rfl, K1, K2, K3, K4, K5, K6⟩ := hrel
            by_cases hkn : k < rn
            · have gk : (k : Int) < (rn : Int) := by omega
              cases sj with
              | false =>
                have NX : Hid (Pm rn (POrd.hangs rs) s j (k + 1) m) := Lib.hid (pm_skip K2.out (fun h => by rw [HSJ.out] at h; cases h.1))
                clear K2
                go_wp2_with fail
                exact ⟨⟨k + 1, m, by omega, rfl, rfl, K1, NX, K3, K4, K5, K6⟩, by simp [intOf]; omega⟩
              | true =>
                obtain ⟨hb, hhb⟩ : ∃ b, POrd.hangs rs j k = b := ⟨_, rfl⟩
                have CK := Lib.hid (CH.out wr K5.out j k hjn hkn)
                rw [hhb] at CK
                have HHB := Lib.hid hhb
                obtain ⟨q0, q1⟩ := bx2 K4.out
                have hq := K4.out.1
                clear hhb
                cases hb with
                | false =>
                  have NX : Hid (Pm rn (POrd.hangs rs) s j (k + 1) m) := Lib.hid (pm_skip K2.out (fun h => by rw [HHB.out] at h; cases h.2))
                  clear K2
                  go_wp2_with (go_at_call 24; refine CK.out.mono ?_)
                  intro e5 w5 h5
                  obtain ⟨rfl, b5⟩ := h5
                  have K1 := Lib.hid (K1.out.on b5); have K3 := Lib.hid (K3.out.on b5); have K4 := Lib.hid (K4.out.on b5)
                  have K5 := Lib.hid (K5.out.trans (b5.mono (by have := K5.out.size; have := HL.out; omega))); have K6 := Lib.hid (Nat.lt_of_lt_of_le K6.out b5.size)
                  clear b5 CK q0 q1 hq
                  go_wp2_with fail
                  exact ⟨⟨k + 1, m, by omega, rfl, rfl, K1, NX, K3, K4, K5, K6⟩, by simp [intOf]; omega⟩
                | true =>
                  have NX : Hid (Pm rn (POrd.hangs rs) s j (k + 1) (m.set k true)) := Lib.hid (pm_set K2.out K1.out.1 hkn HSJ.out HHB.out)
                  have AS : POrd.anyS (m.set k true) = true := anyS_set (by have := K1.out.1; omega)
                  clear K2
                  go_wp2_with (go_at_call 24; refine CK.out.mono ?_)
                  intro e5 w5 h5
                  obtain ⟨rfl, b5⟩ := h5
                  have k1 := K1.out.on b5
                  have k5 := K5.out.trans (b5.mono (by have := K5.out.size; have := HL.out; omega))
                  have k6 := Nat.lt_of_lt_of_le K6.out b5.size
                  obtain ⟨v1, v2⟩ := k1.2 k hkn
                  have K1 := Lib.hid (k1.set hkn true)
                  have K3 := Lib.hid ((K3.out.on b5).far2 (p := ⟨Y, k, none⟩) (by show Y ≠ X; have := HXY.out; omega) (.bool true)); have K4 := Lib.hid ((K4.out.on b5).far (p := ⟨Y, k, none⟩) (by show Y ≠ L; have := HLY.out; omega) (.bool true))
                  have K5 := Lib.hid (k5.setCell (p := ⟨Y, k, none⟩) (Nat.le_of_lt HLY.out) (.bool true))
                  have K6 : Hid (Y < (w5.setCell ⟨Y, k, none⟩ (.bool true)).heap.size) := Lib.hid (by simp only [World.size_setCell]; exact k6)
                  have hvs := k6
                  clear b5 CK q0 q1 hq k1 k5 k6
                  go_wp2_with fail
                  exact ⟨⟨k + 1, m.set k true, by omega, rfl, by rw [AS], K1, NX, K3, K4, K5, K6⟩, by simp [intOf]; omega⟩
            · obtain rfl : k = rn := by omega
              have NX : Hid (Pm k (POrd.hangs rs) s (j + 1) 0 m) := Lib.hid (pm_next K2.out)
              have gk : ¬ (k : Int) < (k : Int) := by omega
              clear K2 hkn
              go_wp2_with fail
              exact ⟨⟨j + 1, m, by omega, rfl, rfl, K1, NX, K3, K4, K5, K6⟩, by simp [intOf]; omega⟩
        · obtain rfl : j = rn := by omega
          have hme := pm_end J2.out J1.out.1
          have STm := ST.out
          rw [← hme] at STm
          have gj : ¬ (j : Int) < (j : Int) := by omega
          obtain ⟨am, ham⟩ : ∃ a, POrd.anyS m = a := ⟨_, rfl⟩
          rw [ham] at STm ⊢
          clear hme ham J2 hjn ST
          cases am with
          | false =>
            have STz : Hid (false = z) := Lib.hid STm
            clear STm
            go_wp2_with fail
            exact FIN.out _ _ STz.out J5.out
          | true =>
            have STz : Hid (POrd.stuckF j (POrd.hangs rs) (j - (t + 1)) m = z) := Lib.hid STm
            clear STm
            go_wp2_with fail
            exact ⟨⟨t + 1, Y, m, by omega, rfl, rfl, HLY, J1, STz, J4, J5⟩, by simp [intOf]; omega⟩
    · obtain rfl : t = rn := by omega
      have STz : Hid (true = z) := Lib.hid (by have h := I3.out; rw [Nat.sub_self] at h; exact h)
      have gt : ¬ (t : Int) < (t : Int) := by omega
      clear I3 htn
      go_wp2_with fail
      exact FIN.out _ _ STz.out I5.out
end Go.Proofs.YtfihdbnecepmfaaGreatDoor
