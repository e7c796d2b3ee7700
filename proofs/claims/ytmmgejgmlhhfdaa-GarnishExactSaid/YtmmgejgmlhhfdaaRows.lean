/-
  No cell of these rows narrows 'for every input' (looked for: loops, veiled, ifaces, maps, wideKeys, modest, calm, conditions, laid).
  DERIVED. THE GIVEN ROWS OF THIS SEAT. 7 by the template 'for every input the law returns true; each argument reads behind the call as it read before'; 0 by the template 'total and deterministic' (their statements: YtmmgejgmlhhfdaaTotals.lean).
  GIVEN WITH THE SEED: the statements are not yours to turn. If you find one false, say at which input.
  Laid BY PROGRAM, IN A SANDBOX (cutbox-rows.mjs): the forced cells as the released guide's own fill.sh prints them over the translation ffc40ceb7d56c6ba… (all of the seat's roots in one cut). By AI agents, Wed Nov 11 2026. No macro, syntax, notation, axiom, sorry.
-/
import Derived.Test.YtmmgejgmlhhfdaaChecked
import GoSem.Claim
import GoSem.ClaimJoined
import GoSem.ClaimMapViews
import Derived.JoinedTies
import Derived.KernelRfl
namespace Go.Proofs.Ytmmgejgmlhhfdaa
/- THE CELL 'sum', in the pinned program and in every row, IS THE sha256 OF THE DUMP (.gsa) THAT YtmmgejgmlhhfdaaProg.lean LOADS. Nothing in Lean hashes anything: it is a label: what it is worth is what the hold of that sum in a sandbox is worth. -/
noncomputable def Try.pinned : Pinned := { name := "ytmmgejgmlhhfdaa", sum := "ffc40ceb7d56c6bab53b3d78e5248b8be9b1554ee78c826899ff6139fc82385c", checked := Try.checked }
namespace Rows
def none {H : Type} : Left H := { results := [], args := [] }

/-- 'paymasterlaw15.GarnishExact': WHATEVER THE INPUT: true; the input reads as it did. -/
def garnishExactSpec : ChangeSpec := { name := "garnishExact", fn := fun _ => fun
  | [d1, d2, d3] => { results := [.lit (.bool true)], args := [d1, d2, d3] }
  | _ => none }
def garnishExactRow : OpenClaim := { program := "ytmmgejgmlhhfdaa", sum := "ffc40ceb7d56c6bab53b3d78e5248b8be9b1554ee78c826899ff6139fc82385c", func := "paymaster/paymasterlaw15.GarnishExact", spec := "garnishExact", unfollowed := true, recurses := true, named := ["math/bits.divideError", "math/bits.overflowError"], apart := false }
def GarnishExactSaid : Prop := garnishExactRow.holds Try.pinned (OpenSpec.ofChange garnishExactSpec)

/-- ITS FALSE NEIGHBOUR: 'it returns false'. Refute it at one input. -/
def garnishExactWrong : ChangeSpec := { name := "garnishExact", fn := fun _ => fun
  | [d1, d2, d3] => { results := [.lit (.bool false)], args := [d1, d2, d3] }
  | _ => none }
def GarnishExactWrongFalsely : Prop := garnishExactRow.holds Try.pinned (OpenSpec.ofChange garnishExactWrong)

/-- 'paymasterlaw15.GarnishPaid': WHATEVER THE INPUT: true; the input reads as it did. -/
def garnishPaidSpec : ChangeSpec := { name := "garnishPaid", fn := fun _ => fun
  | [d1, d2] => { results := [.lit (.bool true)], args := [d1, d2] }
  | _ => none }
def garnishPaidRow : OpenClaim := { program := "ytmmgejgmlhhfdaa", sum := "ffc40ceb7d56c6bab53b3d78e5248b8be9b1554ee78c826899ff6139fc82385c", func := "paymaster/paymasterlaw15.GarnishPaid", spec := "garnishPaid", unfollowed := true, recurses := true, named := ["math/bits.divideError", "math/bits.overflowError"], apart := false }
def GarnishPaidSaid : Prop := garnishPaidRow.holds Try.pinned (OpenSpec.ofChange garnishPaidSpec)

/-- ITS FALSE NEIGHBOUR: 'it returns false'. Refute it at one input. -/
def garnishPaidWrong : ChangeSpec := { name := "garnishPaid", fn := fun _ => fun
  | [d1, d2] => { results := [.lit (.bool false)], args := [d1, d2] }
  | _ => none }
def GarnishPaidWrongFalsely : Prop := garnishPaidRow.holds Try.pinned (OpenSpec.ofChange garnishPaidWrong)

/-- 'paymasterlaw15.GarnishFair': WHATEVER THE INPUT: true; the input reads as it did. -/
def garnishFairSpec : ChangeSpec := { name := "garnishFair", fn := fun _ => fun
  | [d1, d2, d3] => { results := [.lit (.bool true)], args := [d1, d2, d3] }
  | _ => none }
def garnishFairRow : OpenClaim := { program := "ytmmgejgmlhhfdaa", sum := "ffc40ceb7d56c6bab53b3d78e5248b8be9b1554ee78c826899ff6139fc82385c", func := "paymaster/paymasterlaw15.GarnishFair", spec := "garnishFair", unfollowed := true, recurses := true, named := ["math/bits.divideError", "math/bits.overflowError"], apart := false }
def GarnishFairSaid : Prop := garnishFairRow.holds Try.pinned (OpenSpec.ofChange garnishFairSpec)

/-- ITS FALSE NEIGHBOUR: 'it returns false'. Refute it at one input. -/
def garnishFairWrong : ChangeSpec := { name := "garnishFair", fn := fun _ => fun
  | [d1, d2, d3] => { results := [.lit (.bool false)], args := [d1, d2, d3] }
  | _ => none }
def GarnishFairWrongFalsely : Prop := garnishFairRow.holds Try.pinned (OpenSpec.ofChange garnishFairWrong)

/-- 'paymasterlaw15.GarnishMore': WHATEVER THE INPUT: true; the input reads as it did. -/
def garnishMoreSpec : ChangeSpec := { name := "garnishMore", fn := fun _ => fun
  | [d1, d2, d3, d4] => { results := [.lit (.bool true)], args := [d1, d2, d3, d4] }
  | _ => none }
def garnishMoreRow : OpenClaim := { program := "ytmmgejgmlhhfdaa", sum := "ffc40ceb7d56c6bab53b3d78e5248b8be9b1554ee78c826899ff6139fc82385c", func := "paymaster/paymasterlaw15.GarnishMore", spec := "garnishMore", unfollowed := true, recurses := true, named := ["math/bits.divideError", "math/bits.overflowError"], apart := false }
def GarnishMoreSaid : Prop := garnishMoreRow.holds Try.pinned (OpenSpec.ofChange garnishMoreSpec)

/-- ITS FALSE NEIGHBOUR: 'it returns false'. Refute it at one input. -/
def garnishMoreWrong : ChangeSpec := { name := "garnishMore", fn := fun _ => fun
  | [d1, d2, d3, d4] => { results := [.lit (.bool false)], args := [d1, d2, d3, d4] }
  | _ => none }
def GarnishMoreWrongFalsely : Prop := garnishMoreRow.holds Try.pinned (OpenSpec.ofChange garnishMoreWrong)

/-- 'paymasterlaw15.GarnishAll': WHATEVER THE INPUT: true; the input reads as it did. -/
def garnishAllSpec : ChangeSpec := { name := "garnishAll", fn := fun _ => fun
  | [d1, d2] => { results := [.lit (.bool true)], args := [d1, d2] }
  | _ => none }
def garnishAllRow : OpenClaim := { program := "ytmmgejgmlhhfdaa", sum := "ffc40ceb7d56c6bab53b3d78e5248b8be9b1554ee78c826899ff6139fc82385c", func := "paymaster/paymasterlaw15.GarnishAll", spec := "garnishAll", unfollowed := true, recurses := true, named := ["math/bits.divideError", "math/bits.overflowError"], apart := false }
def GarnishAllSaid : Prop := garnishAllRow.holds Try.pinned (OpenSpec.ofChange garnishAllSpec)

/-- ITS FALSE NEIGHBOUR: 'it returns false'. Refute it at one input. -/
def garnishAllWrong : ChangeSpec := { name := "garnishAll", fn := fun _ => fun
  | [d1, d2] => { results := [.lit (.bool false)], args := [d1, d2] }
  | _ => none }
def GarnishAllWrongFalsely : Prop := garnishAllRow.holds Try.pinned (OpenSpec.ofChange garnishAllWrong)

/-- 'paymasterlaw15.GarnishTwice': WHATEVER THE INPUT: true; the input reads as it did. -/
def garnishTwiceSpec : ChangeSpec := { name := "garnishTwice", fn := fun _ => fun
  | [d1, d2] => { results := [.lit (.bool true)], args := [d1, d2] }
  | _ => none }
def garnishTwiceRow : OpenClaim := { program := "ytmmgejgmlhhfdaa", sum := "ffc40ceb7d56c6bab53b3d78e5248b8be9b1554ee78c826899ff6139fc82385c", func := "paymaster/paymasterlaw15.GarnishTwice", spec := "garnishTwice", unfollowed := true, recurses := true, named := ["math/bits.divideError", "math/bits.overflowError"], apart := false }
def GarnishTwiceSaid : Prop := garnishTwiceRow.holds Try.pinned (OpenSpec.ofChange garnishTwiceSpec)

/-- ITS FALSE NEIGHBOUR: 'it returns false'. Refute it at one input. -/
def garnishTwiceWrong : ChangeSpec := { name := "garnishTwice", fn := fun _ => fun
  | [d1, d2] => { results := [.lit (.bool false)], args := [d1, d2] }
  | _ => none }
def GarnishTwiceWrongFalsely : Prop := garnishTwiceRow.holds Try.pinned (OpenSpec.ofChange garnishTwiceWrong)

/-- 'paymasterlaw15.GarnishFirst': WHATEVER THE INPUT: true; the input reads as it did. -/
def garnishFirstSpec : ChangeSpec := { name := "garnishFirst", fn := fun _ => fun
  | [d1, d2, d3] => { results := [.lit (.bool true)], args := [d1, d2, d3] }
  | _ => none }
def garnishFirstRow : OpenClaim := { program := "ytmmgejgmlhhfdaa", sum := "ffc40ceb7d56c6bab53b3d78e5248b8be9b1554ee78c826899ff6139fc82385c", func := "paymaster/paymasterlaw15.GarnishFirst", spec := "garnishFirst", unfollowed := true, recurses := true, named := ["math/bits.divideError", "math/bits.overflowError"], apart := false }
def GarnishFirstSaid : Prop := garnishFirstRow.holds Try.pinned (OpenSpec.ofChange garnishFirstSpec)

/-- ITS FALSE NEIGHBOUR: 'it returns false'. Refute it at one input. -/
def garnishFirstWrong : ChangeSpec := { name := "garnishFirst", fn := fun _ => fun
  | [d1, d2, d3] => { results := [.lit (.bool false)], args := [d1, d2, d3] }
  | _ => none }
def GarnishFirstWrongFalsely : Prop := garnishFirstRow.holds Try.pinned (OpenSpec.ofChange garnishFirstWrong)

/- THE SECOND FORM. 'bulk': how many values and letters a reading holds, each counted each time it is reached (what is shared counts as often as it is met; a slice's spare places count too). A statement '..UptoSaid' is the law's where the arguments, and the package variables that the reading takes, are together of bulk at most 1048576: NARROWER than '..Said'. Prove '..Said' where nothing that the law and all that it calls make is longer than what came in: it says more and counts as full. Else prove '..UptoSaid'. A law counts once. -/
mutual
def uptoBulk {H : Type} : DataW H → Nat
  | .lit (.string bytes) => bytes.length + 1
  | .lit _ => 1
  | .nil => 1
  | .ptr d => uptoBulk d + 1
  | .slice elems spare => uptoBulkAll elems + uptoBulkAll spare + 1
  | .agg parts => uptoBulkAll parts + 1
  | .iface _ d => uptoBulk d + 1
  | .map entries => uptoBulkEntries entries + 1
  | .held _ => 1
def uptoBulkAll {H : Type} : List (DataW H) → Nat
  | [] => 0
  | d :: r => uptoBulk d + uptoBulkAll r
def uptoBulkEntries {H : Type} : List (Lit × DataW H) → Nat
  | [] => 0
  | x :: r => uptoBulkEntry x + uptoBulkEntries r
def uptoBulkEntry {H : Type} : Lit × DataW H → Nat
  | (.string bytes, d) => bytes.length + uptoBulk d + 1
  | (_, d) => uptoBulk d + 1
 end
def uptoSmall : (H : Type) → List (DataW H) → Bool := fun _ ds => decide (uptoBulkAll ds ≤ 1048576)
def OpenSpec.upto (s : _root_.Go.ChangeSpec) : _root_.Go.OpenSpec := { _root_.Go.OpenSpec.ofChange s with cond := some uptoSmall }

/-- 'paymasterlaw15.GarnishExact', WHERE WHAT IT READS IS OF BULK AT MOST 1048576: true; the input reads as it did. -/
def garnishExactUptoRow : OpenClaim := { program := "ytmmgejgmlhhfdaa", sum := "ffc40ceb7d56c6bab53b3d78e5248b8be9b1554ee78c826899ff6139fc82385c", func := "paymaster/paymasterlaw15.GarnishExact", spec := "garnishExact", unfollowed := true, recurses := true, named := ["math/bits.divideError", "math/bits.overflowError"], apart := false, narrowed := true }
def GarnishExactUptoSaid : Prop := garnishExactUptoRow.holds Try.pinned (OpenSpec.upto garnishExactSpec)

/-- 'paymasterlaw15.GarnishPaid', WHERE WHAT IT READS IS OF BULK AT MOST 1048576: true; the input reads as it did. -/
def garnishPaidUptoRow : OpenClaim := { program := "ytmmgejgmlhhfdaa", sum := "ffc40ceb7d56c6bab53b3d78e5248b8be9b1554ee78c826899ff6139fc82385c", func := "paymaster/paymasterlaw15.GarnishPaid", spec := "garnishPaid", unfollowed := true, recurses := true, named := ["math/bits.divideError", "math/bits.overflowError"], apart := false, narrowed := true }
def GarnishPaidUptoSaid : Prop := garnishPaidUptoRow.holds Try.pinned (OpenSpec.upto garnishPaidSpec)

/-- 'paymasterlaw15.GarnishFair', WHERE WHAT IT READS IS OF BULK AT MOST 1048576: true; the input reads as it did. -/
def garnishFairUptoRow : OpenClaim := { program := "ytmmgejgmlhhfdaa", sum := "ffc40ceb7d56c6bab53b3d78e5248b8be9b1554ee78c826899ff6139fc82385c", func := "paymaster/paymasterlaw15.GarnishFair", spec := "garnishFair", unfollowed := true, recurses := true, named := ["math/bits.divideError", "math/bits.overflowError"], apart := false, narrowed := true }
def GarnishFairUptoSaid : Prop := garnishFairUptoRow.holds Try.pinned (OpenSpec.upto garnishFairSpec)

/-- 'paymasterlaw15.GarnishMore', WHERE WHAT IT READS IS OF BULK AT MOST 1048576: true; the input reads as it did. -/
def garnishMoreUptoRow : OpenClaim := { program := "ytmmgejgmlhhfdaa", sum := "ffc40ceb7d56c6bab53b3d78e5248b8be9b1554ee78c826899ff6139fc82385c", func := "paymaster/paymasterlaw15.GarnishMore", spec := "garnishMore", unfollowed := true, recurses := true, named := ["math/bits.divideError", "math/bits.overflowError"], apart := false, narrowed := true }
def GarnishMoreUptoSaid : Prop := garnishMoreUptoRow.holds Try.pinned (OpenSpec.upto garnishMoreSpec)

/-- 'paymasterlaw15.GarnishAll', WHERE WHAT IT READS IS OF BULK AT MOST 1048576: true; the input reads as it did. -/
def garnishAllUptoRow : OpenClaim := { program := "ytmmgejgmlhhfdaa", sum := "ffc40ceb7d56c6bab53b3d78e5248b8be9b1554ee78c826899ff6139fc82385c", func := "paymaster/paymasterlaw15.GarnishAll", spec := "garnishAll", unfollowed := true, recurses := true, named := ["math/bits.divideError", "math/bits.overflowError"], apart := false, narrowed := true }
def GarnishAllUptoSaid : Prop := garnishAllUptoRow.holds Try.pinned (OpenSpec.upto garnishAllSpec)

/-- 'paymasterlaw15.GarnishTwice', WHERE WHAT IT READS IS OF BULK AT MOST 1048576: true; the input reads as it did. -/
def garnishTwiceUptoRow : OpenClaim := { program := "ytmmgejgmlhhfdaa", sum := "ffc40ceb7d56c6bab53b3d78e5248b8be9b1554ee78c826899ff6139fc82385c", func := "paymaster/paymasterlaw15.GarnishTwice", spec := "garnishTwice", unfollowed := true, recurses := true, named := ["math/bits.divideError", "math/bits.overflowError"], apart := false, narrowed := true }
def GarnishTwiceUptoSaid : Prop := garnishTwiceUptoRow.holds Try.pinned (OpenSpec.upto garnishTwiceSpec)

/-- 'paymasterlaw15.GarnishFirst', WHERE WHAT IT READS IS OF BULK AT MOST 1048576: true; the input reads as it did. -/
def garnishFirstUptoRow : OpenClaim := { program := "ytmmgejgmlhhfdaa", sum := "ffc40ceb7d56c6bab53b3d78e5248b8be9b1554ee78c826899ff6139fc82385c", func := "paymaster/paymasterlaw15.GarnishFirst", spec := "garnishFirst", unfollowed := true, recurses := true, named := ["math/bits.divideError", "math/bits.overflowError"], apart := false, narrowed := true }
def GarnishFirstUptoSaid : Prop := garnishFirstUptoRow.holds Try.pinned (OpenSpec.upto garnishFirstSpec)

end Rows
end Go.Proofs.Ytmmgejgmlhhfdaa
