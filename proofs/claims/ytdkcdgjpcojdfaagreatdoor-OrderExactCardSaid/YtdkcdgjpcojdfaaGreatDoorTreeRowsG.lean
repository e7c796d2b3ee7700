/-
  The rows of a program, in cells: expressions and rules.
-/
import Derived.Test.YtdkcdgjpcojdfaaGreatDoorPM
import Derived.Test.YtdkcdgjpcojdfaaGreatDoorKT

namespace Go.Proofs.YtdkcdgjpcojdfaaGreatDoor
open Go.RowKit

def exC (x : PTree.Ex) : List Value := [.string ⟨x.op.toArray⟩, .string ⟨x.name.toArray⟩, .int .i64 x.value, .int .i64 x.a, .int .i64 x.b, .int .i64 x.c]
def exR : Rec PTree.Ex := ⟨exC, 6, by decide, fun _ => rfl, fun x u hu => by simp [exC] at hu; rcases hu with rfl | rfl | rfl | rfl | rfl | rfl <;> rfl⟩
def rowC (x : PTree.Row) : List Value := [.string ⟨x.kind.toArray⟩, .string ⟨x.name.toArray⟩, .int .i64 x.root]
def rowR : Rec PTree.Row := ⟨rowC, 3, by decide, fun _ => rfl, fun x u hu => by simp [rowC] at hu; rcases hu with rfl | rfl | rfl <;> rfl⟩
end Go.Proofs.YtdkcdgjpcojdfaaGreatDoor
