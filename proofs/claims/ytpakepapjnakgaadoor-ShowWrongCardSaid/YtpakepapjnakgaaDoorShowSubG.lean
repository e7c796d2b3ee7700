/-
  Each expression of what was read is a tree of its own, whose text is read to it, as a rule. Plain facts; no program is named here.
-/
import Derived.Test.YtpakepapjnakgaaDoorSM

set_option linter.unusedVariables false
namespace PShow
open PCheck (Xp wholeS amountS rateS nameS negS ifS)
open PTree (heldB txB rank Tr Ex Rl level Wf X0 opsL wt tkT φ2 Lo tok1 rulesT ruleT ruleB dep heldD RWf)
open PLex (Lone kindOf)

theorem dep_held (r n d : Nat) : d ≤ heldD r n d := by unfold PTree.heldD; split <;> omega
/-- What stands at a place is a tree. -/
structure Sub (t a : Tr) (o o' : Nat) : Prop where
  wf : Wf X0 a
  lo : Lo (tkT X0 a)
  deep : PTree.dep a ≤ PTree.dep t
  size : a.size ≤ t.size
  lies : ∀ E : List Xp, Lies E o (t.flat o) → Lies E o' (a.flat o')
theorem Sub.through {t b a : Tr} {o ob o' : Nat} (h : Sub b a ob o') (hd : PTree.dep b ≤ PTree.dep t) (hs : b.size ≤ t.size) (hl : ∀ E : List Xp, Lies E o (t.flat o) → Lies E ob (b.flat ob)) : Sub t a o o' :=
  ⟨h.wf, h.lo, Nat.le_trans h.deep hd, Nat.le_trans h.size hs, fun E he => h.lies E (hl E he)⟩
theorem bin_lo {op : List UInt8} {a b : Tr} (hl : Lo (tkT X0 (.bin op a b))) : Lo (tkT X0 a) ∧ Lo (tkT X0 b) := by
  simp only [tkT] at hl
  (repeat' split at hl)
  · obtain ⟨g1, g2⟩ := PTree.lo_app.1 hl
    exact ⟨PTree.lo_held' g1, PTree.lo_held' (PTree.lo_cons.1 g2).2⟩
  · obtain ⟨g1, g2⟩ := PTree.lo_app.1 hl
    exact ⟨PTree.lo_held' g1, PTree.lo_held' (PTree.lo_cons.1 g2).2⟩
  · obtain ⟨g1, g2⟩ := PTree.lo_app.1 hl
    exact ⟨PTree.lo_held' g1, PTree.lo_held' (PTree.lo_cons.1 g2).2⟩
  · obtain ⟨g1, g2⟩ := PTree.lo_app.1 (PTree.lo_cons.1 (PTree.lo_cons.1 hl).2).2
    exact ⟨g1, (PTree.lo_app.1 (PTree.lo_cons.1 g2).2).1⟩
theorem bin_dep (op : List UInt8) (a b : Tr) : dep a ≤ dep (.bin op a b) ∧ dep b ≤ dep (.bin op a b) := by
  simp only [PTree.dep]
  have a1 := dep_held (rank a) 1 (dep a)
  have a2 := dep_held (rank a) 2 (dep a)
  have b1 := dep_held (rank b) 1 (dep b)
  have b2 := dep_held (rank b) 2 (dep b)
  have b3 := dep_held (rank b) 3 (dep b)
  (repeat' split) <;> omega
theorem sub_flat : ∀ (t : Tr) (o k : Nat), k < t.size → Wf X0 t → Lo (tkT X0 t) → ∃ (a : Tr) (o' : Nat), o' + a.size = o + k + 1 ∧ Sub t a o o'
  | .whole n, o, k, hk, hw, hl => ⟨.whole n, o, by simp only [Tr.size] at hk ⊢; omega, hw, hl, Nat.le_refl _, Nat.le_refl _, fun E h => h⟩
  | .amount n, o, k, hk, hw, hl => ⟨.amount n, o, by simp only [Tr.size] at hk ⊢; omega, hw, hl, Nat.le_refl _, Nat.le_refl _, fun E h => h⟩
  | .rate n, o, k, hk, hw, hl => ⟨.rate n, o, by simp only [Tr.size] at hk ⊢; omega, hw, hl, Nat.le_refl _, Nat.le_refl _, fun E h => h⟩
  | .name n, o, k, hk, hw, hl => ⟨.name n, o, by simp only [Tr.size] at hk ⊢; omega, hw, hl, Nat.le_refl _, Nat.le_refl _, fun E h => h⟩
  | .neg a, o, k, hk, hw, hl => by
    by_cases h : k = a.size
    · exact ⟨.neg a, o, by simp only [Tr.size]; omega, hw, hl, Nat.le_refl _, Nat.le_refl _, fun E h => h⟩
    · obtain ⟨x, o', e, s⟩ := sub_flat a o k (by simp only [Tr.size] at hk; omega) hw (PTree.lo_held' (PTree.lo_cons.1 hl).2)
      refine ⟨x, o', e, s.through ?_ (by simp only [Tr.size]; omega) (fun E he => (lies_app he).1)⟩
      have := dep_held (rank a) 3 (dep a)
      simp only [PTree.dep]; omega
  | .bin op a b, o, k, hk, hw, hl => by
    obtain ⟨l1, l2⟩ := bin_lo hl
    obtain ⟨d1, d2⟩ := bin_dep op a b
    simp only [Tr.size] at hk
    by_cases h : k = a.size + b.size
    · exact ⟨.bin op a b, o, by simp only [Tr.size]; omega, hw, hl, Nat.le_refl _, Nat.le_refl _, fun E h => h⟩
    by_cases h2 : k < a.size
    · obtain ⟨x, o', e, s⟩ := sub_flat a o k h2 hw.2.1 l1
      exact ⟨x, o', e, s.through d1 (by simp only [Tr.size]; omega) (fun E he => (lies_app (lies_app he).1).1)⟩
    · obtain ⟨x, o', e, s⟩ := sub_flat b (o + a.size) (k - a.size) (by omega) hw.2.2 l2
      refine ⟨x, o', by omega, s.through d2 (by simp only [Tr.size]; omega) (fun E he => ?_)⟩
      have := (lies_app (lies_app he).1).2
      rwa [Tr.flat_len] at this
  | .cond a b c, o, k, hk, hw, hl => by
    obtain ⟨g1, g2⟩ := PTree.lo_app.1 (PTree.lo_cons.1 hl).2
    obtain ⟨g3, g4⟩ := PTree.lo_app.1 (PTree.lo_cons.1 g2).2
    have g5 := (PTree.lo_cons.1 g4).2
    have hd : dep (.cond a b c) = max (max (dep a) (dep b)) (dep c) + 1 := rfl
    simp only [Tr.size] at hk
    by_cases h : k = a.size + b.size + c.size
    · exact ⟨.cond a b c, o, by simp only [Tr.size]; omega, hw, hl, Nat.le_refl _, Nat.le_refl _, fun E h => h⟩
    by_cases h2 : k < a.size
    · obtain ⟨x, o', e, s⟩ := sub_flat a o k h2 hw.1 g1
      exact ⟨x, o', e, s.through (by omega) (by simp only [Tr.size]; omega) (fun E he => (lies_app (lies_app (lies_app he).1).1).1)⟩
    by_cases h3 : k < a.size + b.size
    · obtain ⟨x, o', e, s⟩ := sub_flat b (o + a.size) (k - a.size) (by omega) hw.2.1 g3
      refine ⟨x, o', by omega, s.through (by omega) (by simp only [Tr.size]; omega) (fun E he => ?_)⟩
      have := (lies_app (lies_app (lies_app he).1).1).2
      rwa [Tr.flat_len] at this
    · obtain ⟨x, o', e, s⟩ := sub_flat c (o + a.size + b.size) (k - a.size - b.size) (by omega) hw.2.2 g5
      refine ⟨x, o', by omega, s.through (by omega) (by simp only [Tr.size]; omega) (fun E he => ?_)⟩
      have := (lies_app (lies_app he).1).2
      rwa [List.length_append, Tr.flat_len, Tr.flat_len, ← Nat.add_assoc] at this
/-- .. in rules. -/
theorem sub_rules : ∀ (rs : List Rl) (o k : Nat), k < PTree.sizeOf rs → (∀ r ∈ rs, RWf r) → Lo (rulesT rs) → ∃ (a : Tr) (o' : Nat), o' + a.size = o + k + 1 ∧ Wf X0 a ∧ Lo (tkT X0 a) ∧ 1 + dep a ≤ 20 ∧ a.size ≤ PTree.sizeOf rs ∧ ∀ E : List Xp, Lies E o (PTree.exprsOf o rs) → Lies E o' (a.flat o')
  | [], o, k, hk, _, _ => absurd hk (by simp [PTree.sizeOf])
  | r :: rs, o, k, hk, hw, hl => by
    obtain ⟨g1, g2⟩ := PTree.lo_app.1 (PTree.lo_cons.1 (PTree.lo_cons.1 (PTree.lo_cons.1 hl).2).2).2
    have hr := hw r (List.mem_cons_self ..)
    have hz : PTree.sizeOf (r :: rs) = r.tree.size + PTree.sizeOf rs := by
      rw [← PTree.exprsOf_len 0, ← PTree.exprsOf_len (0 + r.tree.size) rs]
      simp only [PTree.exprsOf, List.length_append, Tr.flat_len]
    rw [hz] at hk
    by_cases h : k < r.tree.size
    · obtain ⟨a, o', e, s⟩ := sub_flat r.tree o k h hr.2.2.2.1 g1
      have h20 := hr.2.2.2.2
      have hd := s.deep
      have hs := s.size
      exact ⟨a, o', e, s.wf, s.lo, by omega, by omega, fun E he => s.lies E (lies_app he).1⟩
    · obtain ⟨a, o', e, s1, s2, s3, s4, s5⟩ := sub_rules rs (o + r.tree.size) (k - r.tree.size) (by omega) (fun x hx => hw x (List.mem_cons_of_mem _ hx)) (PTree.lo_cons.1 g2).2
      refine ⟨a, o', by omega, s1, s2, s3, by omega, fun E he => s5 E ?_⟩
      have := (lies_app he).2
      rwa [Tr.flat_len] at this
/-- A rule's line alone is read to it. -/
theorem rule_back {r : Rl} (hl : Lo (ruleT r)) (hw : RWf r) : PTree.parse (ruleB r) = some (.ok [] [r]) := by
  have hL : Lo (rulesT [r]) := by rw [PTree.rulesT_cons]; exact PTree.lo_app.2 ⟨hl, PTree.lo_nil⟩
  obtain ⟨h1, h2⟩ := PTree.text_lexed [r] 0 hL
  have hj := PLex.all_join kindOf (ruleB r).length 0 (ruleB r) [] (Nat.le_refl _)
  have et : PTree.textB [r] = ruleB r ++ 10 :: [] := rfl
  rw [et, hj] at h1 h2
  obtain ⟨z, hz⟩ : ∃ z, PLex.all kindOf 0 (ruleB r) = z := ⟨_, rfl⟩
  obtain ⟨q, ts⟩ := z
  rw [hz] at h1 h2
  cases q with
  | some q => cases h1
  | none =>
    simp only [PLex.all_nil, List.append_nil] at h2
    unfold PTree.parse
    rw [hz]
    simp only []
    have hb := PTree.rules_back (ruleB r).length [r] 0 (fun x hx => by rw [List.mem_singleton.1 hx]; exact hw) (by simp)
    have hrel := PTree.rules_rel (en := (ruleB r).length) (en' := (ruleB r).length) 0 h2
    rw [hb] at hrel
    obtain ⟨x, hx⟩ : ∃ x, PTree.rules (ruleB r).length 0 ts = x := ⟨_, rfl⟩
    rw [hx] at hrel ⊢
    match x, hrel with
    | some (.ok us b), hrel =>
      obtain ⟨k1, rfl⟩ := hrel
      have : us = [] := by
        have := PTree.same_len k1
        exact List.eq_nil_of_length_eq_zero (by simpa using this)
      rw [this]
    | none, hrel => exact hrel.elim
    | some (.bad e p), hrel => exact hrel.elim
theorem lone_x : Lone kindOf 1 [120] := ⟨120, [], rfl, by decide, by decide, by decide⟩
theorem lone_let : Lone kindOf 1 [108, 101, 116] := ⟨108, [101, 116], rfl, by decide, by decide, by decide⟩
/-- An expression's text, as a rule of its own, is read to it. -/
theorem expr_back {s : List UInt8} {rs : List Rl} (h : Got s rs) {j : Nat} (hj : j < PTree.sizeOf rs) : ∃ a : Tr, tx ((PTree.exprsOf 0 rs).map exX) j = txB a ∧ a.size ≤ PTree.sizeOf rs ∧ PTree.parse ([108, 101, 116, 32, 120, 32, 61, 32] ++ txB a ++ [59]) = some (.ok [] [⟨[108, 101, 116], [120], a⟩]) ∧
    tx ((PTree.exprsOf 0 [⟨[108, 101, 116], [120], a⟩]).map exX) (a.size - 1) = txB a := by
  obtain ⟨a, o', e, h1, h2, h3, h4, h5⟩ := sub_rules rs 0 j hj h.wf h.lo
  have hw : ∀ r ∈ rs, Wf X0 r.tree := fun r hr => (h.wf r hr).2.2.2.1
  obtain ⟨-, hE, -⟩ := read_lines hw
  have ht := (tx_tree hE a o' h1 (h5 _ (lies_self rs))).1
  rw [show o' + a.size - 1 = j by omega] at ht
  have hlo : Lo (ruleT ⟨[108, 101, 116], [120], a⟩) := PTree.lo_cons.2 ⟨lone_let, PTree.lo_cons.2 ⟨lone_x, PTree.lo_cons.2 ⟨PTree.lone_signs [61] (by decide), PTree.lo_app.2 ⟨h2, PTree.lo_cons.2 ⟨PTree.lone_signs [59] (by decide), PTree.lo_nil⟩⟩⟩⟩⟩
  have hb := rule_back hlo ⟨(by decide : ([108, 101, 116] : List UInt8) ∈ PTree.kinds), (by decide : ¬ ([120] : List UInt8) ∈ PTree.takenL), lone_x, h1, h3⟩
  obtain ⟨-, hE2, -⟩ := read_lines (rs := [⟨[108, 101, 116], [120], a⟩]) (fun r hr => by rw [List.mem_singleton.1 hr]; exact h1)
  have hl2 : Lies ((PTree.exprsOf 0 [⟨[108, 101, 116], [120], a⟩]).map exX) 0 (a.flat 0) := (lies_app (lies_self [⟨[108, 101, 116], [120], a⟩])).1
  have ht2 := (tx_tree hE2 a 0 h1 hl2).1
  rw [Nat.zero_add] at ht2
  refine ⟨a, ht, h4, ?_, ht2⟩
  have e2 : ruleB ⟨[108, 101, 116], [120], a⟩ = [108, 101, 116, 32, 120, 32, 61, 32] ++ txB a ++ [59] := by simp [PTree.ruleB]
  rw [← e2]
  exact hb
end PShow
