/-
  A slice of records that came in reads as a list of them, whatever the records are; how much it weighs.
-/
import Derived.Test.YtbnnmakmgleikaaDoorRecKit
import Derived.WalkKit
import Derived.ProofKit
import Derived.OpenShut
import Derived.SizedLaws
import Derived.Deep.Slices
namespace Go.Proofs.YtbnnmakmgleikaaDoor
open Go.ChangeShapes Go.WideShapes Go.ChangeAt Go.RowKit

theorem weights_at {P : Program} {H : Type} {ts : List TypeId} {ds : List (DataW H)} (h : (DataW.weightsEach P ts ds).all (· ≤ reachBytes) = true) {j : Nat} {t : TypeId} {d : DataW H} (ht : ts[j]? = some t) (hd : ds[j]? = some d) : (d.weights P t).all (· ≤ reachBytes) = true :=
  List.all_eq_true.2 fun x hx => List.all_eq_true.1 h x (DataW.weights_mem_each ht hd x hx)
theorem slx_of_trod {α : Type} [Inhabited α] {R : Rec α} {Pq : α → Prop} {H : Type} {enc : TypeId × Value → H} {w : World} {t e : TypeId} (ht : Tryd.prog.underlying t = some (.slice e)) (ce : Program.cellsOf Tryd.prog e = R.k)
    (one : ∀ (n : Nat) (cs : List Value) (y : DataW H × List MemPlace), DataW.trod enc Tryd.prog w 0 (fun _ => true) true n e cs = some y → cs.length = R.k → ∃ q : α, Pq q ∧ cs = R.C q)
    {fuel : Nat} {cs : List Value} {x : DataW H × List MemPlace} (hf : DataW.trod enc Tryd.prog w 0 (fun _ => true) true fuel t cs = some x) :
    ∃ A n cap l, cs = [.slice A n cap] ∧ SlX R w A n l ∧ (∀ q ∈ l, Pq q) ∧ n ≤ cap ∧ cap ≤ maxLen ∧ (A = none → cap = 0) ∧ ((x.1.weights Tryd.prog t).all (· ≤ reachBytes) = true → n * Tryd.prog.bytesOf e ≤ reachBytes) := by
  rcases Go.Deep.open_slice ht hf with ⟨hcs, hx⟩ | ⟨a, len, cap, m, k, D, Pl, hcs, _, hl, hm, hmm, hx, hi⟩
  · exact ⟨none, 0, 0, [], hcs, slr_nil R w _, (fun q h => by cases h), Nat.le_refl _, Nat.zero_le _, fun _ => rfl, fun _ => by simp⟩
  · have hwt : (x.1.weights Tryd.prog t).all (· ≤ reachBytes) = true → len * Tryd.prog.bytesOf e ≤ reachBytes := by
      intro h
      rw [hx] at h
      simp only [DataW.weights, ht, List.all_cons, Bool.and_eq_true, decide_eq_true_eq, List.length_map, List.length_range] at h
      exact Nat.le_trans (Nat.mul_le_mul_right _ (Nat.le_add_right _ _)) h.1
    rw [ce] at hi
    have hlm : len ≤ m := by rw [hmm]; simp; omega
    have each : ∀ i, i < len → ∃ q : α, Pq q ∧ ∀ j v, (R.C q)[j]? = some v → w.cell? ((a.add (i * R.k)).add j) = some v := by
      intro i hin
      obtain ⟨cs', hc, htr⟩ := hi i (by omega)
      obtain ⟨_, hcl, hat⟩ := World.cells?_some hc
      obtain ⟨q, hq, rfl⟩ := one _ _ _ htr hcl
      refine ⟨q, hq, fun j v hj => ?_⟩
      have hjl : j < (R.C q).length := (List.getElem?_eq_some_iff.1 hj).1
      have h := hat j (by rw [R.len] at hjl; exact hjl)
      rw [h]; simpa using hj
    obtain ⟨q, hq⟩ := Go.Deep.choose_lt each
    refine ⟨some a, len, cap, (List.range len).map q, hcs, ⟨by simp, ?_⟩, fun y hy => ?_, hl, hm, (fun e => by cases e), hwt⟩
    · by_cases h0 : len = 0
      · exact .inl h0
      · obtain ⟨b, off, spot⟩ := a
        have hs : spot = none := by
          have hp : 0 < (R.C (q 0)).length := by rw [R.len]; exact R.pos
          have hc := (hq 0 (by omega)).2 0 _ (List.getElem?_eq_getElem hp)
          simpa [Addr.add] using World.cell?_spot hc
        subst hs
        refine .inr ⟨b, off, rfl, fun i hin j v e => ?_⟩
        have hil : i < len := by simpa using hin
        have g := (hq i hil).2 j v (by have eq : ((List.range len).map q)[i]'hin = q i := by simp
                                       rw [eq] at e; exact e)
        rw [addr_add', addr_add'] at g
        exact g
    · obtain ⟨i, hi', rfl⟩ := List.mem_map.1 hy
      exact (hq i (List.mem_range.1 hi')).1
end Go.Proofs.YtbnnmakmgleikaaDoor
