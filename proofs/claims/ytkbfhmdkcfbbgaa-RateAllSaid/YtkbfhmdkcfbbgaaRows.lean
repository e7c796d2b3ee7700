/-
  No cell of these rows narrows 'for every input' (looked for: loops, veiled, ifaces, maps, wideKeys, modest, calm, conditions, laid).
  DERIVED. THE GIVEN ROWS OF THIS SEAT. 5 by the template 'for every input the law returns true; each argument reads behind the call as it read before'; 0 by the template 'total and deterministic' (their statements: YtkbfhmdkcfbbgaaTotals.lean).
  GIVEN WITH THE SEED: the statements are not yours to turn. If you find one false, say at which input.
  Laid BY PROGRAM, IN A SANDBOX (cutbox-rows.mjs): the forced cells as the released guide's own fill.sh prints them over the translation d663f651f92c8749… (all of the seat's roots in one cut). By AI agents, Wed Nov 11 2026. No macro, syntax, notation, axiom, sorry.
-/
import Derived.Test.YtkbfhmdkcfbbgaaChecked
import GoSem.Claim
import GoSem.ClaimJoined
import GoSem.ClaimMapViews
import Derived.JoinedTies
import Derived.KernelRfl
namespace Go.Proofs.Ytkbfhmdkcfbbgaa
/- THE CELL 'sum', in the pinned program and in every row, IS THE sha256 OF THE DUMP (.gsa) THAT YtkbfhmdkcfbbgaaProg.lean LOADS. Nothing in Lean hashes anything: it is a label: what it is worth is what the hold of that sum in a sandbox is worth. -/
noncomputable def Try.pinned : Pinned := { name := "ytkbfhmdkcfbbgaa", sum := "d663f651f92c87492faebab0719c99652186cccbc82af3447038d54e1e8c5424", checked := Try.checked }
namespace Rows
def none {H : Type} : Left H := { results := [], args := [] }

/-- 'paymasterlaw03.RateExact': WHATEVER THE INPUT: true; the input reads as it did. -/
def rateExactSpec : ChangeSpec := { name := "rateExact", fn := fun _ => fun
  | [d1, d2, d3, d4, d5] => { results := [.lit (.bool true)], args := [d1, d2, d3, d4, d5] }
  | _ => none }
def rateExactRow : OpenClaim := { program := "ytkbfhmdkcfbbgaa", sum := "d663f651f92c87492faebab0719c99652186cccbc82af3447038d54e1e8c5424", func := "paymaster/paymasterlaw03.RateExact", spec := "rateExact", named := ["math/bits.divideError", "math/bits.overflowError"], apart := false }
def RateExactSaid : Prop := rateExactRow.holds Try.pinned (OpenSpec.ofChange rateExactSpec)

/-- ITS FALSE NEIGHBOUR: 'it returns false'. Refute it at one input. -/
def rateExactWrong : ChangeSpec := { name := "rateExact", fn := fun _ => fun
  | [d1, d2, d3, d4, d5] => { results := [.lit (.bool false)], args := [d1, d2, d3, d4, d5] }
  | _ => none }
def RateExactWrongFalsely : Prop := rateExactRow.holds Try.pinned (OpenSpec.ofChange rateExactWrong)

/-- 'paymasterlaw03.RateParts': WHATEVER THE INPUT: true; the input reads as it did. -/
def ratePartsSpec : ChangeSpec := { name := "rateParts", fn := fun _ => fun
  | [d1, d2, d3] => { results := [.lit (.bool true)], args := [d1, d2, d3] }
  | _ => none }
def ratePartsRow : OpenClaim := { program := "ytkbfhmdkcfbbgaa", sum := "d663f651f92c87492faebab0719c99652186cccbc82af3447038d54e1e8c5424", func := "paymaster/paymasterlaw03.RateParts", spec := "rateParts", named := ["math/bits.divideError", "math/bits.overflowError"], apart := false }
def RatePartsSaid : Prop := ratePartsRow.holds Try.pinned (OpenSpec.ofChange ratePartsSpec)

/-- ITS FALSE NEIGHBOUR: 'it returns false'. Refute it at one input. -/
def ratePartsWrong : ChangeSpec := { name := "rateParts", fn := fun _ => fun
  | [d1, d2, d3] => { results := [.lit (.bool false)], args := [d1, d2, d3] }
  | _ => none }
def RatePartsWrongFalsely : Prop := ratePartsRow.holds Try.pinned (OpenSpec.ofChange ratePartsWrong)

/-- 'paymasterlaw03.RateHalves': WHATEVER THE INPUT: true; the input reads as it did. -/
def rateHalvesSpec : ChangeSpec := { name := "rateHalves", fn := fun _ => fun
  | [d1, d2, d3] => { results := [.lit (.bool true)], args := [d1, d2, d3] }
  | _ => none }
def rateHalvesRow : OpenClaim := { program := "ytkbfhmdkcfbbgaa", sum := "d663f651f92c87492faebab0719c99652186cccbc82af3447038d54e1e8c5424", func := "paymaster/paymasterlaw03.RateHalves", spec := "rateHalves", named := ["math/bits.divideError", "math/bits.overflowError"], apart := false }
def RateHalvesSaid : Prop := rateHalvesRow.holds Try.pinned (OpenSpec.ofChange rateHalvesSpec)

/-- ITS FALSE NEIGHBOUR: 'it returns false'. Refute it at one input. -/
def rateHalvesWrong : ChangeSpec := { name := "rateHalves", fn := fun _ => fun
  | [d1, d2, d3] => { results := [.lit (.bool false)], args := [d1, d2, d3] }
  | _ => none }
def RateHalvesWrongFalsely : Prop := rateHalvesRow.holds Try.pinned (OpenSpec.ofChange rateHalvesWrong)

/-- 'paymasterlaw03.RateAll': WHATEVER THE INPUT: true; the input reads as it did. -/
def rateAllSpec : ChangeSpec := { name := "rateAll", fn := fun _ => fun
  | [d1, d2, d3] => { results := [.lit (.bool true)], args := [d1, d2, d3] }
  | _ => none }
def rateAllRow : OpenClaim := { program := "ytkbfhmdkcfbbgaa", sum := "d663f651f92c87492faebab0719c99652186cccbc82af3447038d54e1e8c5424", func := "paymaster/paymasterlaw03.RateAll", spec := "rateAll", named := ["math/bits.divideError", "math/bits.overflowError"], apart := false }
def RateAllSaid : Prop := rateAllRow.holds Try.pinned (OpenSpec.ofChange rateAllSpec)

/-- ITS FALSE NEIGHBOUR: 'it returns false'. Refute it at one input. -/
def rateAllWrong : ChangeSpec := { name := "rateAll", fn := fun _ => fun
  | [d1, d2, d3] => { results := [.lit (.bool false)], args := [d1, d2, d3] }
  | _ => none }
def RateAllWrongFalsely : Prop := rateAllRow.holds Try.pinned (OpenSpec.ofChange rateAllWrong)

/-- 'paymasterlaw03.RateSums': WHATEVER THE INPUT: true; the input reads as it did. -/
def rateSumsSpec : ChangeSpec := { name := "rateSums", fn := fun _ => fun
  | [d1, d2, d3] => { results := [.lit (.bool true)], args := [d1, d2, d3] }
  | _ => none }
def rateSumsRow : OpenClaim := { program := "ytkbfhmdkcfbbgaa", sum := "d663f651f92c87492faebab0719c99652186cccbc82af3447038d54e1e8c5424", func := "paymaster/paymasterlaw03.RateSums", spec := "rateSums", named := ["math/bits.divideError", "math/bits.overflowError"], apart := false }
def RateSumsSaid : Prop := rateSumsRow.holds Try.pinned (OpenSpec.ofChange rateSumsSpec)

/-- ITS FALSE NEIGHBOUR: 'it returns false'. Refute it at one input. -/
def rateSumsWrong : ChangeSpec := { name := "rateSums", fn := fun _ => fun
  | [d1, d2, d3] => { results := [.lit (.bool false)], args := [d1, d2, d3] }
  | _ => none }
def RateSumsWrongFalsely : Prop := rateSumsRow.holds Try.pinned (OpenSpec.ofChange rateSumsWrong)

/- THE SECOND FORM. 'bulk': how many values and letters a reading holds, each counted each time it is reached (what is shared counts as often as it is met; a slice's spare places count too). A statement '..UptoSaid' is the law's where the arguments, and the package variables that the reading takes, are together of bulk at most 1048576: NARROWER than '..Said'. Prove '..Said' where nothing that the law and all that it calls make is longer than what came in: it says more and counts as full. Else prove '..UptoSaid'. A law counts once. -/
mutual
def uptoBulk {H : Type} : DataW H → Nat
  | .lit (.string bytes) => bytes.length + 1
  | .lit _ => 1
  | .nil => 1
  | .ptr d => uptoBulk d + 1
  | .slice elems spare => uptoBulkAll elems + uptoBulkAll spare + 1
  | .agg parts => uptoBulkAll parts + 1
  | .iface _ d => uptoBulk d + 1
  | .map entries => uptoBulkEntries entries + 1
  | .held _ => 1
def uptoBulkAll {H : Type} : List (DataW H) → Nat
  | [] => 0
  | d :: r => uptoBulk d + uptoBulkAll r
def uptoBulkEntries {H : Type} : List (Lit × DataW H) → Nat
  | [] => 0
  | x :: r => uptoBulkEntry x + uptoBulkEntries r
def uptoBulkEntry {H : Type} : Lit × DataW H → Nat
  | (.string bytes, d) => bytes.length + uptoBulk d + 1
  | (_, d) => uptoBulk d + 1
 end
def uptoSmall : (H : Type) → List (DataW H) → Bool := fun _ ds => decide (uptoBulkAll ds ≤ 1048576)
def OpenSpec.upto (s : _root_.Go.ChangeSpec) : _root_.Go.OpenSpec := { _root_.Go.OpenSpec.ofChange s with cond := some uptoSmall }

/-- 'paymasterlaw03.RateExact', WHERE WHAT IT READS IS OF BULK AT MOST 1048576: true; the input reads as it did. -/
def rateExactUptoRow : OpenClaim := { program := "ytkbfhmdkcfbbgaa", sum := "d663f651f92c87492faebab0719c99652186cccbc82af3447038d54e1e8c5424", func := "paymaster/paymasterlaw03.RateExact", spec := "rateExact", named := ["math/bits.divideError", "math/bits.overflowError"], apart := false, narrowed := true }
def RateExactUptoSaid : Prop := rateExactUptoRow.holds Try.pinned (OpenSpec.upto rateExactSpec)

/-- 'paymasterlaw03.RateParts', WHERE WHAT IT READS IS OF BULK AT MOST 1048576: true; the input reads as it did. -/
def ratePartsUptoRow : OpenClaim := { program := "ytkbfhmdkcfbbgaa", sum := "d663f651f92c87492faebab0719c99652186cccbc82af3447038d54e1e8c5424", func := "paymaster/paymasterlaw03.RateParts", spec := "rateParts", named := ["math/bits.divideError", "math/bits.overflowError"], apart := false, narrowed := true }
def RatePartsUptoSaid : Prop := ratePartsUptoRow.holds Try.pinned (OpenSpec.upto ratePartsSpec)

/-- 'paymasterlaw03.RateHalves', WHERE WHAT IT READS IS OF BULK AT MOST 1048576: true; the input reads as it did. -/
def rateHalvesUptoRow : OpenClaim := { program := "ytkbfhmdkcfbbgaa", sum := "d663f651f92c87492faebab0719c99652186cccbc82af3447038d54e1e8c5424", func := "paymaster/paymasterlaw03.RateHalves", spec := "rateHalves", named := ["math/bits.divideError", "math/bits.overflowError"], apart := false, narrowed := true }
def RateHalvesUptoSaid : Prop := rateHalvesUptoRow.holds Try.pinned (OpenSpec.upto rateHalvesSpec)

/-- 'paymasterlaw03.RateAll', WHERE WHAT IT READS IS OF BULK AT MOST 1048576: true; the input reads as it did. -/
def rateAllUptoRow : OpenClaim := { program := "ytkbfhmdkcfbbgaa", sum := "d663f651f92c87492faebab0719c99652186cccbc82af3447038d54e1e8c5424", func := "paymaster/paymasterlaw03.RateAll", spec := "rateAll", named := ["math/bits.divideError", "math/bits.overflowError"], apart := false, narrowed := true }
def RateAllUptoSaid : Prop := rateAllUptoRow.holds Try.pinned (OpenSpec.upto rateAllSpec)

/-- 'paymasterlaw03.RateSums', WHERE WHAT IT READS IS OF BULK AT MOST 1048576: true; the input reads as it did. -/
def rateSumsUptoRow : OpenClaim := { program := "ytkbfhmdkcfbbgaa", sum := "d663f651f92c87492faebab0719c99652186cccbc82af3447038d54e1e8c5424", func := "paymaster/paymasterlaw03.RateSums", spec := "rateSums", named := ["math/bits.divideError", "math/bits.overflowError"], apart := false, narrowed := true }
def RateSumsUptoSaid : Prop := rateSumsUptoRow.holds Try.pinned (OpenSpec.upto rateSumsSpec)

end Rows
end Go.Proofs.Ytkbfhmdkcfbbgaa
