/-
  A program of which one expression is turned: how long its text would be. Plain facts; no program is named here.
-/
import Derived.Test.YtpakepapjnakgaaDoorSM

set_option linter.unusedVariables false
namespace PShow
open PCheck (Xp wholeS amountS rateS nameS negS ifS)
open PTree (heldB txB rank Tr Ex Rl level Wf X0 opsL)

theorem form_own {op : List UInt8} {f : Fm} (h : formOf op = some f) (h0 : f.parts ≠ []) : (f.parts.map fun s => s.1.length + 2).sum + f.fin.length ≤ 40 := by
  unfold formOf at h
  split at h
  · cases h; exact absurd rfl h0
  split at h
  · cases h; decide
  split at h
  · next h3 => cases h; subst h3; decide
  split at h
  · next h3 => cases h; rcases h3 with rfl | rfl <;> decide
  split at h
  · next h3 =>
    cases h
    have : op.length ≤ 2 := by
      have k : ∀ op ∈ compL, op.length ≤ 2 := by decide
      exact k op h3
    simp [between]; omega
  split at h
  · next h3 => cases h; rcases h3 with rfl | rfl <;> decide
  split at h
  · cases h; decide
  · cases h
theorem own_le {x : Xp} (h0 : -9223372036854775808 ≤ x.value) (h1 : x.value ≤ 9223372036854775807) : own x ≤ 40 + x.name.length := by
  unfold own
  cases hf : formOf x.op with
  | none => exact Nat.zero_le _
  | some f =>
    simp only []
    by_cases hp : f.parts = []
    · rw [if_pos hp]
      unfold leafTx
      split
      · have := Go.Lib.itoa_length_le x.value h0 h1; omega
      split
      · split
        · have := (Go.Proofs.YtpakepapjnakgaaDoor.text_len x.value h0 h1).2; omega
        · simp
      split
      · split
        · next h => have := (PRate.text_len x.value h.1 h.2).2; omega
        · simp
      split
      · omega
      · simp
    · rw [if_neg hp]
      have := form_own hf hp
      omega
theorem sum_set (f : Xp → Nat) : ∀ (E : List Xp) (k : Nat) (x y : Xp), E[k]? = some x → ((E.set k y).map f).sum + f x = (E.map f).sum + f y
  | [], _, _, _, h => by cases h
  | a :: E, 0, x, y, h => by cases h; simp only [List.set_cons_zero, List.map_cons, List.sum_cons]; omega
  | a :: E, k + 1, x, y, h => by
    have ih := sum_set f E k x y (by simpa using h)
    simp only [List.set_cons_succ, List.map_cons, List.sum_cons]; omega
theorem lines_sum (E : List Xp) : ∀ (l : List (List UInt8 × List UInt8 × Int)), (linesTx E l).length = (l.map fun r => r.1.length + r.2.1.length + 6).sum + (l.map fun r => (tx E r.2.2.toNat).length).sum
  | [] => rfl
  | r :: l => by
    have ih := lines_sum E l
    simp only [linesTx, List.length_append, List.map_cons, List.sum_cons, List.length_cons, List.length_nil]
    omega
/-- One expression is turned: the text, if there is one, is not much longer. -/
theorem turned_len {s : List UInt8} {rs : List Rl} (g : Got s rs) {k : Nat} {x y : Xp} (hx : ((PTree.exprsOf 0 rs).map exX)[k]? = some x) (h0 : -9223372036854775808 ≤ y.value) (h1 : y.value ≤ 9223372036854775807) (hn : y.name.length ≤ x.name.length + 20)
    {RL : List (List UInt8 × List UInt8 × Int)} (hR : RL = (PTree.rowsOf 0 rs).map fun r => (r.kind, r.name, ((r.root : Nat) : Int))) (ho : ord (((PTree.exprsOf 0 rs).map exX).set k y) 0 [] = some (RL.map fun r => r.2.2)) :
    (linesTx (((PTree.exprsOf 0 rs).map exX).set k y) RL).length ≤ 9 * s.length + 60 := by
  obtain ⟨E, hE⟩ : ∃ E, (PTree.exprsOf 0 rs).map exX = E := ⟨_, rfl⟩
  have hown := g.own
  have e1 : ((PTree.exprsOf 0 rs).map fun x => own (exX x)).sum = (E.map own).sum := by rw [← hE, List.map_map]; rfl
  have hxn : x.name.length ≤ own x := by
    rw [List.getElem?_map] at hx
    obtain ⟨z, hz, rfl⟩ := Option.map_eq_some_iff.1 hx
    exact (g.vals z (List.mem_of_getElem? hz)).2
  rw [hE] at hx ho ⊢
  have h2 := sum_set own E k x y hx
  have h3 := own_le h0 h1
  have h4 := (ord_tx ho).1
  rw [List.map_map] at h4
  rw [lines_sum]
  have e2 : (RL.map fun r => (tx (E.set k y) r.2.2.toNat).length).sum = ((RL.map (((fun p : Int => (tx (E.set k y) p.toNat).length)) ∘ fun r => r.2.2))).sum := rfl
  have e3 : (RL.map fun r => r.1.length + r.2.1.length + 6).sum = (rs.map fun r => r.kind.length + r.name.length + 6).sum := by
    rw [hR, List.map_map]
    have : ∀ (rs : List Rl) (o : Nat), ((PTree.rowsOf o rs).map ((fun r : List UInt8 × List UInt8 × Int => r.1.length + r.2.1.length + 6) ∘ fun r => (r.kind, r.name, ((r.root : Nat) : Int)))).sum = (rs.map fun r => r.kind.length + r.name.length + 6).sum := by
      intro rs
      induction rs with
      | nil => intro o; rfl
      | cons r rs ih => intro o; simp only [PTree.rowsOf, List.map_cons, List.sum_cons, Function.comp_apply]; rw [← ih]
    exact this rs 0
  rw [e2, e3]
  omega
end PShow
