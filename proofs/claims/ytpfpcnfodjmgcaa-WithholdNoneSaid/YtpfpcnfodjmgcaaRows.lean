/-
  No cell of these rows narrows 'for every input' (looked for: loops, veiled, ifaces, maps, wideKeys, modest, calm, conditions, laid).
  DERIVED. THE GIVEN ROWS OF THIS SEAT. 6 by the template 'for every input the law returns true; each argument reads behind the call as it read before'; 0 by the template 'total and deterministic' (their statements: YtpfpcnfodjmgcaaTotals.lean).
  GIVEN WITH THE SEED: the statements are not yours to turn. If you find one false, say at which input.
  Laid BY PROGRAM, IN A SANDBOX (cutbox-rows.mjs): the forced cells as the released guide's own fill.sh prints them over the translation ab2b742dc707892a… (all of the seat's roots in one cut). By AI agents, Wed Nov 11 2026. No macro, syntax, notation, axiom, sorry.
-/
import Derived.Test.YtpfpcnfodjmgcaaChecked
import GoSem.Claim
import GoSem.ClaimJoined
import GoSem.ClaimMapViews
import Derived.JoinedTies
import Derived.KernelRfl
namespace Go.Proofs.Ytpfpcnfodjmgcaa
/- THE CELL 'sum', in the pinned program and in every row, IS THE sha256 OF THE DUMP (.gsa) THAT YtpfpcnfodjmgcaaProg.lean LOADS. Nothing in Lean hashes anything: it is a label: what it is worth is what the hold of that sum in a sandbox is worth. -/
noncomputable def Try.pinned : Pinned := { name := "ytpfpcnfodjmgcaa", sum := "ab2b742dc707892a9a60bec84b623d722f9a1c076c25f76ca4f21024e231968b", checked := Try.checked }
namespace Rows
def none {H : Type} : Left H := { results := [], args := [] }

/-- 'paymasterlaw14.WithholdDue': WHATEVER THE INPUT: true; the input reads as it did. -/
def withholdDueSpec : ChangeSpec := { name := "withholdDue", fn := fun _ => fun
  | [d1, d2, d3] => { results := [.lit (.bool true)], args := [d1, d2, d3] }
  | _ => none }
def withholdDueRow : OpenClaim := { program := "ytpfpcnfodjmgcaa", sum := "ab2b742dc707892a9a60bec84b623d722f9a1c076c25f76ca4f21024e231968b", func := "paymaster/paymasterlaw14.WithholdDue", spec := "withholdDue", named := ["math/bits.divideError", "math/bits.overflowError"], apart := false }
def WithholdDueSaid : Prop := withholdDueRow.holds Try.pinned (OpenSpec.ofChange withholdDueSpec)

/-- ITS FALSE NEIGHBOUR: 'it returns false'. Refute it at one input. -/
def withholdDueWrong : ChangeSpec := { name := "withholdDue", fn := fun _ => fun
  | [d1, d2, d3] => { results := [.lit (.bool false)], args := [d1, d2, d3] }
  | _ => none }
def WithholdDueWrongFalsely : Prop := withholdDueRow.holds Try.pinned (OpenSpec.ofChange withholdDueWrong)

/-- 'paymasterlaw14.WithholdStep': WHATEVER THE INPUT: true; the input reads as it did. -/
def withholdStepSpec : ChangeSpec := { name := "withholdStep", fn := fun _ => fun
  | [d1, d2, d3, d4] => { results := [.lit (.bool true)], args := [d1, d2, d3, d4] }
  | _ => none }
def withholdStepRow : OpenClaim := { program := "ytpfpcnfodjmgcaa", sum := "ab2b742dc707892a9a60bec84b623d722f9a1c076c25f76ca4f21024e231968b", func := "paymaster/paymasterlaw14.WithholdStep", spec := "withholdStep", named := ["math/bits.divideError", "math/bits.overflowError"], apart := false }
def WithholdStepSaid : Prop := withholdStepRow.holds Try.pinned (OpenSpec.ofChange withholdStepSpec)

/-- ITS FALSE NEIGHBOUR: 'it returns false'. Refute it at one input. -/
def withholdStepWrong : ChangeSpec := { name := "withholdStep", fn := fun _ => fun
  | [d1, d2, d3, d4] => { results := [.lit (.bool false)], args := [d1, d2, d3, d4] }
  | _ => none }
def WithholdStepWrongFalsely : Prop := withholdStepRow.holds Try.pinned (OpenSpec.ofChange withholdStepWrong)

/-- 'paymasterlaw14.WithholdYear': WHATEVER THE INPUT: true; the input reads as it did. -/
def withholdYearSpec : ChangeSpec := { name := "withholdYear", fn := fun _ => fun
  | [d1, d2] => { results := [.lit (.bool true)], args := [d1, d2] }
  | _ => none }
def withholdYearRow : OpenClaim := { program := "ytpfpcnfodjmgcaa", sum := "ab2b742dc707892a9a60bec84b623d722f9a1c076c25f76ca4f21024e231968b", func := "paymaster/paymasterlaw14.WithholdYear", spec := "withholdYear", named := ["math/bits.divideError", "math/bits.overflowError"], apart := false }
def WithholdYearSaid : Prop := withholdYearRow.holds Try.pinned (OpenSpec.ofChange withholdYearSpec)

/-- ITS FALSE NEIGHBOUR: 'it returns false'. Refute it at one input. -/
def withholdYearWrong : ChangeSpec := { name := "withholdYear", fn := fun _ => fun
  | [d1, d2] => { results := [.lit (.bool false)], args := [d1, d2] }
  | _ => none }
def WithholdYearWrongFalsely : Prop := withholdYearRow.holds Try.pinned (OpenSpec.ofChange withholdYearWrong)

/-- 'paymasterlaw14.WithholdFlat': WHATEVER THE INPUT: true; the input reads as it did. -/
def withholdFlatSpec : ChangeSpec := { name := "withholdFlat", fn := fun _ => fun
  | [d1, d2, d3, d4, d5] => { results := [.lit (.bool true)], args := [d1, d2, d3, d4, d5] }
  | _ => none }
def withholdFlatRow : OpenClaim := { program := "ytpfpcnfodjmgcaa", sum := "ab2b742dc707892a9a60bec84b623d722f9a1c076c25f76ca4f21024e231968b", func := "paymaster/paymasterlaw14.WithholdFlat", spec := "withholdFlat", named := ["math/bits.divideError", "math/bits.overflowError"], apart := false }
def WithholdFlatSaid : Prop := withholdFlatRow.holds Try.pinned (OpenSpec.ofChange withholdFlatSpec)

/-- ITS FALSE NEIGHBOUR: 'it returns false'. Refute it at one input. -/
def withholdFlatWrong : ChangeSpec := { name := "withholdFlat", fn := fun _ => fun
  | [d1, d2, d3, d4, d5] => { results := [.lit (.bool false)], args := [d1, d2, d3, d4, d5] }
  | _ => none }
def WithholdFlatWrongFalsely : Prop := withholdFlatRow.holds Try.pinned (OpenSpec.ofChange withholdFlatWrong)

/-- 'paymasterlaw14.WithholdNone': WHATEVER THE INPUT: true; the input reads as it did. -/
def withholdNoneSpec : ChangeSpec := { name := "withholdNone", fn := fun _ => fun
  | [d1, d2, d3] => { results := [.lit (.bool true)], args := [d1, d2, d3] }
  | _ => none }
def withholdNoneRow : OpenClaim := { program := "ytpfpcnfodjmgcaa", sum := "ab2b742dc707892a9a60bec84b623d722f9a1c076c25f76ca4f21024e231968b", func := "paymaster/paymasterlaw14.WithholdNone", spec := "withholdNone", named := ["math/bits.divideError", "math/bits.overflowError"], apart := false }
def WithholdNoneSaid : Prop := withholdNoneRow.holds Try.pinned (OpenSpec.ofChange withholdNoneSpec)

/-- ITS FALSE NEIGHBOUR: 'it returns false'. Refute it at one input. -/
def withholdNoneWrong : ChangeSpec := { name := "withholdNone", fn := fun _ => fun
  | [d1, d2, d3] => { results := [.lit (.bool false)], args := [d1, d2, d3] }
  | _ => none }
def WithholdNoneWrongFalsely : Prop := withholdNoneRow.holds Try.pinned (OpenSpec.ofChange withholdNoneWrong)

/-- 'paymasterlaw14.WithholdMore': WHATEVER THE INPUT: true; the input reads as it did. -/
def withholdMoreSpec : ChangeSpec := { name := "withholdMore", fn := fun _ => fun
  | [d1, d2, d3, d4] => { results := [.lit (.bool true)], args := [d1, d2, d3, d4] }
  | _ => none }
def withholdMoreRow : OpenClaim := { program := "ytpfpcnfodjmgcaa", sum := "ab2b742dc707892a9a60bec84b623d722f9a1c076c25f76ca4f21024e231968b", func := "paymaster/paymasterlaw14.WithholdMore", spec := "withholdMore", named := ["math/bits.divideError", "math/bits.overflowError"], apart := false }
def WithholdMoreSaid : Prop := withholdMoreRow.holds Try.pinned (OpenSpec.ofChange withholdMoreSpec)

/-- ITS FALSE NEIGHBOUR: 'it returns false'. Refute it at one input. -/
def withholdMoreWrong : ChangeSpec := { name := "withholdMore", fn := fun _ => fun
  | [d1, d2, d3, d4] => { results := [.lit (.bool false)], args := [d1, d2, d3, d4] }
  | _ => none }
def WithholdMoreWrongFalsely : Prop := withholdMoreRow.holds Try.pinned (OpenSpec.ofChange withholdMoreWrong)

/- THE SECOND FORM. 'bulk': how many values and letters a reading holds, each counted each time it is reached (what is shared counts as often as it is met; a slice's spare places count too). A statement '..UptoSaid' is the law's where the arguments, and the package variables that the reading takes, are together of bulk at most 1048576: NARROWER than '..Said'. Prove '..Said' where nothing that the law and all that it calls make is longer than what came in: it says more and counts as full. Else prove '..UptoSaid'. A law counts once. -/
mutual
def uptoBulk {H : Type} : DataW H → Nat
  | .lit (.string bytes) => bytes.length + 1
  | .lit _ => 1
  | .nil => 1
  | .ptr d => uptoBulk d + 1
  | .slice elems spare => uptoBulkAll elems + uptoBulkAll spare + 1
  | .agg parts => uptoBulkAll parts + 1
  | .iface _ d => uptoBulk d + 1
  | .map entries => uptoBulkEntries entries + 1
  | .held _ => 1
def uptoBulkAll {H : Type} : List (DataW H) → Nat
  | [] => 0
  | d :: r => uptoBulk d + uptoBulkAll r
def uptoBulkEntries {H : Type} : List (Lit × DataW H) → Nat
  | [] => 0
  | x :: r => uptoBulkEntry x + uptoBulkEntries r
def uptoBulkEntry {H : Type} : Lit × DataW H → Nat
  | (.string bytes, d) => bytes.length + uptoBulk d + 1
  | (_, d) => uptoBulk d + 1
 end
def uptoSmall : (H : Type) → List (DataW H) → Bool := fun _ ds => decide (uptoBulkAll ds ≤ 1048576)
def OpenSpec.upto (s : _root_.Go.ChangeSpec) : _root_.Go.OpenSpec := { _root_.Go.OpenSpec.ofChange s with cond := some uptoSmall }

/-- 'paymasterlaw14.WithholdDue', WHERE WHAT IT READS IS OF BULK AT MOST 1048576: true; the input reads as it did. -/
def withholdDueUptoRow : OpenClaim := { program := "ytpfpcnfodjmgcaa", sum := "ab2b742dc707892a9a60bec84b623d722f9a1c076c25f76ca4f21024e231968b", func := "paymaster/paymasterlaw14.WithholdDue", spec := "withholdDue", named := ["math/bits.divideError", "math/bits.overflowError"], apart := false, narrowed := true }
def WithholdDueUptoSaid : Prop := withholdDueUptoRow.holds Try.pinned (OpenSpec.upto withholdDueSpec)

/-- 'paymasterlaw14.WithholdStep', WHERE WHAT IT READS IS OF BULK AT MOST 1048576: true; the input reads as it did. -/
def withholdStepUptoRow : OpenClaim := { program := "ytpfpcnfodjmgcaa", sum := "ab2b742dc707892a9a60bec84b623d722f9a1c076c25f76ca4f21024e231968b", func := "paymaster/paymasterlaw14.WithholdStep", spec := "withholdStep", named := ["math/bits.divideError", "math/bits.overflowError"], apart := false, narrowed := true }
def WithholdStepUptoSaid : Prop := withholdStepUptoRow.holds Try.pinned (OpenSpec.upto withholdStepSpec)

/-- 'paymasterlaw14.WithholdYear', WHERE WHAT IT READS IS OF BULK AT MOST 1048576: true; the input reads as it did. -/
def withholdYearUptoRow : OpenClaim := { program := "ytpfpcnfodjmgcaa", sum := "ab2b742dc707892a9a60bec84b623d722f9a1c076c25f76ca4f21024e231968b", func := "paymaster/paymasterlaw14.WithholdYear", spec := "withholdYear", named := ["math/bits.divideError", "math/bits.overflowError"], apart := false, narrowed := true }
def WithholdYearUptoSaid : Prop := withholdYearUptoRow.holds Try.pinned (OpenSpec.upto withholdYearSpec)

/-- 'paymasterlaw14.WithholdFlat', WHERE WHAT IT READS IS OF BULK AT MOST 1048576: true; the input reads as it did. -/
def withholdFlatUptoRow : OpenClaim := { program := "ytpfpcnfodjmgcaa", sum := "ab2b742dc707892a9a60bec84b623d722f9a1c076c25f76ca4f21024e231968b", func := "paymaster/paymasterlaw14.WithholdFlat", spec := "withholdFlat", named := ["math/bits.divideError", "math/bits.overflowError"], apart := false, narrowed := true }
def WithholdFlatUptoSaid : Prop := withholdFlatUptoRow.holds Try.pinned (OpenSpec.upto withholdFlatSpec)

/-- 'paymasterlaw14.WithholdNone', WHERE WHAT IT READS IS OF BULK AT MOST 1048576: true; the input reads as it did. -/
def withholdNoneUptoRow : OpenClaim := { program := "ytpfpcnfodjmgcaa", sum := "ab2b742dc707892a9a60bec84b623d722f9a1c076c25f76ca4f21024e231968b", func := "paymaster/paymasterlaw14.WithholdNone", spec := "withholdNone", named := ["math/bits.divideError", "math/bits.overflowError"], apart := false, narrowed := true }
def WithholdNoneUptoSaid : Prop := withholdNoneUptoRow.holds Try.pinned (OpenSpec.upto withholdNoneSpec)

/-- 'paymasterlaw14.WithholdMore', WHERE WHAT IT READS IS OF BULK AT MOST 1048576: true; the input reads as it did. -/
def withholdMoreUptoRow : OpenClaim := { program := "ytpfpcnfodjmgcaa", sum := "ab2b742dc707892a9a60bec84b623d722f9a1c076c25f76ca4f21024e231968b", func := "paymaster/paymasterlaw14.WithholdMore", spec := "withholdMore", named := ["math/bits.divideError", "math/bits.overflowError"], apart := false, narrowed := true }
def WithholdMoreUptoSaid : Prop := withholdMoreUptoRow.holds Try.pinned (OpenSpec.upto withholdMoreSpec)

end Rows
end Go.Proofs.Ytpfpcnfodjmgcaa
