/-
  Rows of texts; two texts are equal, or not, as the walk writes it.
-/
import Derived.Test.YtbnnmakmgleikaaDoorRecKit
namespace Go.Proofs.YtbnnmakmgleikaaDoor
open Go.RowKit

def strR : Rec (List UInt8) := ⟨fun s => [.string ⟨s.toArray⟩], 1, by decide, fun _ => rfl, fun x u hu => by simp at hu; subst hu; rfl⟩
theorem strR_new (w : World) (t : TypeId) (l : List (List UInt8)) : SlX strR (w.alloc (.cells (l.map (fun s => Value.string ⟨s.toArray⟩)).toArray t)) (some ⟨w.heap.size, 0, none⟩) l.length l := by
  refine ⟨rfl, .inr ⟨_, _, rfl, fun i hi j v e => ?_⟩⟩
  have hj : j = 0 := by
    have := (List.getElem?_eq_some_iff.1 e).1
    simp [strR] at this; exact this
  subst hj
  rw [World.cell?_alloc_at _ _ _ _ rfl]
  have h1 : strR.k = 1 := rfl
  simp [strR] at e
  rw [h1]; simp [hi, e]
theorem str_eq {u : ByteArray} {x : List UInt8} (h : x = u.data.toList) : (x == u.toList) = true := by
  rw [beq_iff_eq, ByteArray.toList_eq, ← h]
theorem str_ne {u : ByteArray} {x : List UInt8} (h : x ≠ u.data.toList) : (x == u.toList) = false := by
  rw [beq_eq_false_iff_ne]; intro k; rw [ByteArray.toList_eq] at k; exact h k
end Go.Proofs.YtbnnmakmgleikaaDoor
