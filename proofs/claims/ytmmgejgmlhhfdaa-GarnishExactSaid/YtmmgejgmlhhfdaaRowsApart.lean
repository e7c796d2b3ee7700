/-
  Several rows of the call's own, in blocks of their own: append to one leaves the others.
-/
import Derived.Test.YtmmgejgmlhhfdaaRef02Row
namespace Go.Proofs.Ytmmgejgmlhhfdaa
open Go.RowKit

/-- Two rows lie apart. -/
def Ap (u v : Value) : Prop := ∀ k, u.ownBlock = some k → v.ownBlock ≠ some k
theorem Ap.symm {u v : Value} (h : Ap u v) : Ap v u := fun k hk hu => h k hu hk
theorem ap_nil (v : Value) : Ap (.slice none 0 0) v := fun k hk => by cases hk

/-- append_one, that says that other rows are as they were. -/
theorem append_apart {w : World} {ops : Array Oper} {rest : List Oper} {o : Oper} {a : Act} {Q : Exit → Act → World → Prop} (hgd : o.guard = none) (s x : Operand)
    (ho : o.op = .call { callee := .builtin .append, args := #[s, x], argTypes := #[24, 24] })
    (base : Nat) (v : Value) (n : Nat) (k : List Int) (d : Int) (hs : a.eval s = v) (hown : w.ownsRow base 3 1 v n (cellsOfInts k))
    (hx : a.eval x = .slice (some ⟨w.heap.size, 0, none⟩) 1 1) (hn : n + 1 ≤ 1000) (hbase : base ≤ w.heap.size)
    (h : ∀ v' w', w'.ownsRow base 3 1 v' (n + 1) (cellsOfInts (k ++ [d])) → Below base w w' →
      (∀ u m l, w.ownsRow base 3 1 u m (cellsOfInts l) → Ap u v → w'.ownsRow base 3 1 u m (cellsOfInts l) ∧ Ap u v') → wpList Try.prog ops Q rest (a.put o.dst v') w') :
    wpList Try.prog ops Q (o :: rest) a (w.alloc (.cells #[.int .i64 d] 3)) := by
  refine append_one_at hgd s x ho base v n k d hs hown hx hn hbase (fun v' w' hown' hg hat => h v' w' hown' ?_ ?_)
  · exact ((Below.refl _ _).alloc hbase _).grown hg (by simp; omega) (fun k hk => (hown.lt k hk).1)
  · intro u m l hu hap
    refine ⟨(hu.alloc _).kept hg ?_, ?_⟩
    · cases hb : u.ownBlock with
      | none => exact .inl rfl
      | some k => exact .inr (fun e => hap k hb e.symm)
    · intro k hk hv'
      rcases hat with e | e
      · rw [e] at hv'; exact hap k hk hv'
      · rw [e] at hv'
        have := (hu.lt k hk).2
        injection hv' with hv'
        omega
end Go.Proofs.Ytmmgejgmlhhfdaa
