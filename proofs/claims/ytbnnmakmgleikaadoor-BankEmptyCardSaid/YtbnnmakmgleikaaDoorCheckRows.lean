/-
  The rows of any program and of bindings, in cells.
-/
import Derived.Test.YtbnnmakmgleikaaDoorCheckMath
import Derived.Test.YtbnnmakmgleikaaDoorRecKit
import Derived.Test.YtbnnmakmgleikaaDoorStrRow
namespace Go.Proofs.YtbnnmakmgleikaaDoor
open Go.RowKit

def xpC (x : PCheck.Xp) : List Value := [.string ⟨x.op.toArray⟩, .string ⟨x.name.toArray⟩, .int .i64 x.value, .int .i64 x.a, .int .i64 x.b, .int .i64 x.c]
def xpR : Rec PCheck.Xp := ⟨xpC, 6, by decide, fun _ => rfl, fun x u hu => by simp [xpC] at hu; rcases hu with rfl | rfl | rfl | rfl | rfl | rfl <;> rfl⟩
def bdC (x : PCheck.Bd) : List Value := [.string ⟨x.name.toArray⟩, .int .i64 x.kind]
def bdR : Rec PCheck.Bd := ⟨bdC, 2, by decide, fun _ => rfl, fun x u hu => by simp [bdC] at hu; rcases hu with rfl | rfl <;> rfl⟩
/-- All words that an operation can be. -/
def opAll : List (List UInt8) := [PCheck.wholeS, PCheck.amountS, PCheck.rateS, PCheck.nameS, PCheck.negS, PCheck.ifS, [43], [45], [42], [60], [60, 61], [61], [60, 62], [62], [62, 61], [109, 105, 110], [109, 97, 120]]
end Go.Proofs.YtbnnmakmgleikaaDoor
