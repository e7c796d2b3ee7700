/-
  No cell of these rows narrows 'for every input' (looked for: loops, veiled, ifaces, maps, wideKeys, modest, calm, conditions, laid).
  DERIVED. THE GIVEN ROWS OF THIS SEAT. 6 by the template 'for every input the law returns true; each argument reads behind the call as it read before'; 0 by the template 'total and deterministic' (their statements: YtdbadgnoognnnaaTotals.lean).
  GIVEN WITH THE SEED: the statements are not yours to turn. If you find one false, say at which input.
  Laid BY PROGRAM, IN A SANDBOX (cutbox-rows.mjs): the forced cells as the released guide's own fill.sh prints them over the translation 47e5a4f4471dfd7f… (all of the seat's roots in one cut). By AI agents, Wed Nov 11 2026. No macro, syntax, notation, axiom, sorry.
-/
import Derived.Test.YtdbadgnoognnnaaChecked
import GoSem.Claim
import GoSem.ClaimJoined
import GoSem.ClaimMapViews
import Derived.JoinedTies
import Derived.KernelRfl
namespace Go.Proofs.Ytdbadgnoognnnaa
/- THE CELL 'sum', in the pinned program and in every row, IS THE sha256 OF THE DUMP (.gsa) THAT YtdbadgnoognnnaaProg.lean LOADS. Nothing in Lean hashes anything: it is a label: what it is worth is what the hold of that sum in a sandbox is worth. -/
noncomputable def Try.pinned : Pinned := { name := "ytdbadgnoognnnaa", sum := "47e5a4f4471dfd7ffde263fb8b77686ac51d679c238433d3ee3ba6e2fce459d5", checked := Try.checked }
namespace Rows
def none {H : Type} : Left H := { results := [], args := [] }

/-- 'paymasterlaw05.BracketsExact': WHATEVER THE INPUT: true; the input reads as it did. -/
def bracketsExactSpec : ChangeSpec := { name := "bracketsExact", fn := fun _ => fun
  | [d1, d2] => { results := [.lit (.bool true)], args := [d1, d2] }
  | _ => none }
def bracketsExactRow : OpenClaim := { program := "ytdbadgnoognnnaa", sum := "47e5a4f4471dfd7ffde263fb8b77686ac51d679c238433d3ee3ba6e2fce459d5", func := "paymaster/paymasterlaw05.BracketsExact", spec := "bracketsExact", named := ["math/bits.divideError", "math/bits.overflowError"], apart := false }
def BracketsExactSaid : Prop := bracketsExactRow.holds Try.pinned (OpenSpec.ofChange bracketsExactSpec)

/-- ITS FALSE NEIGHBOUR: 'it returns false'. Refute it at one input. -/
def bracketsExactWrong : ChangeSpec := { name := "bracketsExact", fn := fun _ => fun
  | [d1, d2] => { results := [.lit (.bool false)], args := [d1, d2] }
  | _ => none }
def BracketsExactWrongFalsely : Prop := bracketsExactRow.holds Try.pinned (OpenSpec.ofChange bracketsExactWrong)

/-- 'paymasterlaw05.BracketsWhole': WHATEVER THE INPUT: true; the input reads as it did. -/
def bracketsWholeSpec : ChangeSpec := { name := "bracketsWhole", fn := fun _ => fun
  | [d1, d2, d3] => { results := [.lit (.bool true)], args := [d1, d2, d3] }
  | _ => none }
def bracketsWholeRow : OpenClaim := { program := "ytdbadgnoognnnaa", sum := "47e5a4f4471dfd7ffde263fb8b77686ac51d679c238433d3ee3ba6e2fce459d5", func := "paymaster/paymasterlaw05.BracketsWhole", spec := "bracketsWhole", named := ["math/bits.divideError", "math/bits.overflowError"], apart := false }
def BracketsWholeSaid : Prop := bracketsWholeRow.holds Try.pinned (OpenSpec.ofChange bracketsWholeSpec)

/-- ITS FALSE NEIGHBOUR: 'it returns false'. Refute it at one input. -/
def bracketsWholeWrong : ChangeSpec := { name := "bracketsWhole", fn := fun _ => fun
  | [d1, d2, d3] => { results := [.lit (.bool false)], args := [d1, d2, d3] }
  | _ => none }
def BracketsWholeWrongFalsely : Prop := bracketsWholeRow.holds Try.pinned (OpenSpec.ofChange bracketsWholeWrong)

/-- 'paymasterlaw05.BracketsFlat': WHATEVER THE INPUT: true; the input reads as it did. -/
def bracketsFlatSpec : ChangeSpec := { name := "bracketsFlat", fn := fun _ => fun
  | [d1, d2, d3] => { results := [.lit (.bool true)], args := [d1, d2, d3] }
  | _ => none }
def bracketsFlatRow : OpenClaim := { program := "ytdbadgnoognnnaa", sum := "47e5a4f4471dfd7ffde263fb8b77686ac51d679c238433d3ee3ba6e2fce459d5", func := "paymaster/paymasterlaw05.BracketsFlat", spec := "bracketsFlat", named := ["math/bits.divideError", "math/bits.overflowError"], apart := false }
def BracketsFlatSaid : Prop := bracketsFlatRow.holds Try.pinned (OpenSpec.ofChange bracketsFlatSpec)

/-- ITS FALSE NEIGHBOUR: 'it returns false'. Refute it at one input. -/
def bracketsFlatWrong : ChangeSpec := { name := "bracketsFlat", fn := fun _ => fun
  | [d1, d2, d3] => { results := [.lit (.bool false)], args := [d1, d2, d3] }
  | _ => none }
def BracketsFlatWrongFalsely : Prop := bracketsFlatRow.holds Try.pinned (OpenSpec.ofChange bracketsFlatWrong)

/-- 'paymasterlaw05.BracketsNone': WHATEVER THE INPUT: true; the input reads as it did. -/
def bracketsNoneSpec : ChangeSpec := { name := "bracketsNone", fn := fun _ => fun
  | [d1, d2] => { results := [.lit (.bool true)], args := [d1, d2] }
  | _ => none }
def bracketsNoneRow : OpenClaim := { program := "ytdbadgnoognnnaa", sum := "47e5a4f4471dfd7ffde263fb8b77686ac51d679c238433d3ee3ba6e2fce459d5", func := "paymaster/paymasterlaw05.BracketsNone", spec := "bracketsNone", named := ["math/bits.divideError", "math/bits.overflowError"], apart := false }
def BracketsNoneSaid : Prop := bracketsNoneRow.holds Try.pinned (OpenSpec.ofChange bracketsNoneSpec)

/-- ITS FALSE NEIGHBOUR: 'it returns false'. Refute it at one input. -/
def bracketsNoneWrong : ChangeSpec := { name := "bracketsNone", fn := fun _ => fun
  | [d1, d2] => { results := [.lit (.bool false)], args := [d1, d2] }
  | _ => none }
def BracketsNoneWrongFalsely : Prop := bracketsNoneRow.holds Try.pinned (OpenSpec.ofChange bracketsNoneWrong)

/-- 'paymasterlaw05.BracketsRows': WHATEVER THE INPUT: true; the input reads as it did. -/
def bracketsRowsSpec : ChangeSpec := { name := "bracketsRows", fn := fun _ => fun
  | [d1, d2, d3] => { results := [.lit (.bool true)], args := [d1, d2, d3] }
  | _ => none }
def bracketsRowsRow : OpenClaim := { program := "ytdbadgnoognnnaa", sum := "47e5a4f4471dfd7ffde263fb8b77686ac51d679c238433d3ee3ba6e2fce459d5", func := "paymaster/paymasterlaw05.BracketsRows", spec := "bracketsRows", named := ["math/bits.divideError", "math/bits.overflowError"], apart := false }
def BracketsRowsSaid : Prop := bracketsRowsRow.holds Try.pinned (OpenSpec.ofChange bracketsRowsSpec)

/-- ITS FALSE NEIGHBOUR: 'it returns false'. Refute it at one input. -/
def bracketsRowsWrong : ChangeSpec := { name := "bracketsRows", fn := fun _ => fun
  | [d1, d2, d3] => { results := [.lit (.bool false)], args := [d1, d2, d3] }
  | _ => none }
def BracketsRowsWrongFalsely : Prop := bracketsRowsRow.holds Try.pinned (OpenSpec.ofChange bracketsRowsWrong)

/-- 'paymasterlaw05.BracketsSplit': WHATEVER THE INPUT: true; the input reads as it did. -/
def bracketsSplitSpec : ChangeSpec := { name := "bracketsSplit", fn := fun _ => fun
  | [d1, d2, d3] => { results := [.lit (.bool true)], args := [d1, d2, d3] }
  | _ => none }
def bracketsSplitRow : OpenClaim := { program := "ytdbadgnoognnnaa", sum := "47e5a4f4471dfd7ffde263fb8b77686ac51d679c238433d3ee3ba6e2fce459d5", func := "paymaster/paymasterlaw05.BracketsSplit", spec := "bracketsSplit", named := ["math/bits.divideError", "math/bits.overflowError"], apart := false }
def BracketsSplitSaid : Prop := bracketsSplitRow.holds Try.pinned (OpenSpec.ofChange bracketsSplitSpec)

/-- ITS FALSE NEIGHBOUR: 'it returns false'. Refute it at one input. -/
def bracketsSplitWrong : ChangeSpec := { name := "bracketsSplit", fn := fun _ => fun
  | [d1, d2, d3] => { results := [.lit (.bool false)], args := [d1, d2, d3] }
  | _ => none }
def BracketsSplitWrongFalsely : Prop := bracketsSplitRow.holds Try.pinned (OpenSpec.ofChange bracketsSplitWrong)

/- THE SECOND FORM. 'bulk': how many values and letters a reading holds, each counted each time it is reached (what is shared counts as often as it is met; a slice's spare places count too). A statement '..UptoSaid' is the law's where the arguments, and the package variables that the reading takes, are together of bulk at most 1048576: NARROWER than '..Said'. Prove '..Said' where nothing that the law and all that it calls make is longer than what came in: it says more and counts as full. Else prove '..UptoSaid'. A law counts once. -/
mutual
def uptoBulk {H : Type} : DataW H → Nat
  | .lit (.string bytes) => bytes.length + 1
  | .lit _ => 1
  | .nil => 1
  | .ptr d => uptoBulk d + 1
  | .slice elems spare => uptoBulkAll elems + uptoBulkAll spare + 1
  | .agg parts => uptoBulkAll parts + 1
  | .iface _ d => uptoBulk d + 1
  | .map entries => uptoBulkEntries entries + 1
  | .held _ => 1
def uptoBulkAll {H : Type} : List (DataW H) → Nat
  | [] => 0
  | d :: r => uptoBulk d + uptoBulkAll r
def uptoBulkEntries {H : Type} : List (Lit × DataW H) → Nat
  | [] => 0
  | x :: r => uptoBulkEntry x + uptoBulkEntries r
def uptoBulkEntry {H : Type} : Lit × DataW H → Nat
  | (.string bytes, d) => bytes.length + uptoBulk d + 1
  | (_, d) => uptoBulk d + 1
 end
def uptoSmall : (H : Type) → List (DataW H) → Bool := fun _ ds => decide (uptoBulkAll ds ≤ 1048576)
def OpenSpec.upto (s : _root_.Go.ChangeSpec) : _root_.Go.OpenSpec := { _root_.Go.OpenSpec.ofChange s with cond := some uptoSmall }

/-- 'paymasterlaw05.BracketsExact', WHERE WHAT IT READS IS OF BULK AT MOST 1048576: true; the input reads as it did. -/
def bracketsExactUptoRow : OpenClaim := { program := "ytdbadgnoognnnaa", sum := "47e5a4f4471dfd7ffde263fb8b77686ac51d679c238433d3ee3ba6e2fce459d5", func := "paymaster/paymasterlaw05.BracketsExact", spec := "bracketsExact", named := ["math/bits.divideError", "math/bits.overflowError"], apart := false, narrowed := true }
def BracketsExactUptoSaid : Prop := bracketsExactUptoRow.holds Try.pinned (OpenSpec.upto bracketsExactSpec)

/-- 'paymasterlaw05.BracketsWhole', WHERE WHAT IT READS IS OF BULK AT MOST 1048576: true; the input reads as it did. -/
def bracketsWholeUptoRow : OpenClaim := { program := "ytdbadgnoognnnaa", sum := "47e5a4f4471dfd7ffde263fb8b77686ac51d679c238433d3ee3ba6e2fce459d5", func := "paymaster/paymasterlaw05.BracketsWhole", spec := "bracketsWhole", named := ["math/bits.divideError", "math/bits.overflowError"], apart := false, narrowed := true }
def BracketsWholeUptoSaid : Prop := bracketsWholeUptoRow.holds Try.pinned (OpenSpec.upto bracketsWholeSpec)

/-- 'paymasterlaw05.BracketsFlat', WHERE WHAT IT READS IS OF BULK AT MOST 1048576: true; the input reads as it did. -/
def bracketsFlatUptoRow : OpenClaim := { program := "ytdbadgnoognnnaa", sum := "47e5a4f4471dfd7ffde263fb8b77686ac51d679c238433d3ee3ba6e2fce459d5", func := "paymaster/paymasterlaw05.BracketsFlat", spec := "bracketsFlat", named := ["math/bits.divideError", "math/bits.overflowError"], apart := false, narrowed := true }
def BracketsFlatUptoSaid : Prop := bracketsFlatUptoRow.holds Try.pinned (OpenSpec.upto bracketsFlatSpec)

/-- 'paymasterlaw05.BracketsNone', WHERE WHAT IT READS IS OF BULK AT MOST 1048576: true; the input reads as it did. -/
def bracketsNoneUptoRow : OpenClaim := { program := "ytdbadgnoognnnaa", sum := "47e5a4f4471dfd7ffde263fb8b77686ac51d679c238433d3ee3ba6e2fce459d5", func := "paymaster/paymasterlaw05.BracketsNone", spec := "bracketsNone", named := ["math/bits.divideError", "math/bits.overflowError"], apart := false, narrowed := true }
def BracketsNoneUptoSaid : Prop := bracketsNoneUptoRow.holds Try.pinned (OpenSpec.upto bracketsNoneSpec)

/-- 'paymasterlaw05.BracketsRows', WHERE WHAT IT READS IS OF BULK AT MOST 1048576: true; the input reads as it did. -/
def bracketsRowsUptoRow : OpenClaim := { program := "ytdbadgnoognnnaa", sum := "47e5a4f4471dfd7ffde263fb8b77686ac51d679c238433d3ee3ba6e2fce459d5", func := "paymaster/paymasterlaw05.BracketsRows", spec := "bracketsRows", named := ["math/bits.divideError", "math/bits.overflowError"], apart := false, narrowed := true }
def BracketsRowsUptoSaid : Prop := bracketsRowsUptoRow.holds Try.pinned (OpenSpec.upto bracketsRowsSpec)

/-- 'paymasterlaw05.BracketsSplit', WHERE WHAT IT READS IS OF BULK AT MOST 1048576: true; the input reads as it did. -/
def bracketsSplitUptoRow : OpenClaim := { program := "ytdbadgnoognnnaa", sum := "47e5a4f4471dfd7ffde263fb8b77686ac51d679c238433d3ee3ba6e2fce459d5", func := "paymaster/paymasterlaw05.BracketsSplit", spec := "bracketsSplit", named := ["math/bits.divideError", "math/bits.overflowError"], apart := false, narrowed := true }
def BracketsSplitUptoSaid : Prop := bracketsSplitUptoRow.holds Try.pinned (OpenSpec.upto bracketsSplitSpec)

end Rows
end Go.Proofs.Ytdbadgnoognnnaa
