/-
  No cell of these rows narrows 'for every input' (looked for: loops, veiled, ifaces, maps, wideKeys, modest, calm, conditions, laid).
  DERIVED. THE GIVEN ROWS OF THIS SEAT. 7 by the template 'for every input the law returns true; each argument reads behind the call as it read before'; 0 by the template 'total and deterministic' (their statements: YtanciheeobgngaaTotals.lean).
  GIVEN WITH THE SEED: the statements are not yours to turn. If you find one false, say at which input.
  Laid BY PROGRAM, IN A SANDBOX (cutbox-rows.mjs): the forced cells as the released guide's own fill.sh prints them over the translation c864ad6465d53adc… (all of the seat's roots in one cut). By AI agents, Wed Nov 11 2026. No macro, syntax, notation, axiom, sorry.
-/
import Derived.Test.YtanciheeobgngaaChecked
import GoSem.Claim
import GoSem.ClaimJoined
import GoSem.ClaimMapViews
import Derived.JoinedTies
import Derived.KernelRfl
namespace Go.Proofs.Ytanciheeobgngaa
/- THE CELL 'sum', in the pinned program and in every row, IS THE sha256 OF THE DUMP (.gsa) THAT YtanciheeobgngaaProg.lean LOADS. Nothing in Lean hashes anything: it is a label: what it is worth is what the hold of that sum in a sandbox is worth. -/
noncomputable def Try.pinned : Pinned := { name := "ytanciheeobgngaa", sum := "c864ad6465d53adcd2725915b9011e48a5db3b2de0161706e2443fbfbd146b3d", checked := Try.checked }
namespace Rows
def none {H : Type} : Left H := { results := [], args := [] }

/-- 'paymasterlaw06.DatesExact': WHATEVER THE INPUT: true; the input reads as it did. -/
def datesExactSpec : ChangeSpec := { name := "datesExact", fn := fun _ => fun
  | [d] => { results := [.lit (.bool true)], args := [d] }
  | _ => none }
def datesExactRow : OpenClaim := { program := "ytanciheeobgngaa", sum := "c864ad6465d53adcd2725915b9011e48a5db3b2de0161706e2443fbfbd146b3d", func := "paymaster/paymasterlaw06.DatesExact", spec := "datesExact", apart := false }
def DatesExactSaid : Prop := datesExactRow.holds Try.pinned (OpenSpec.ofChange datesExactSpec)

/-- ITS FALSE NEIGHBOUR: 'it returns false'. Refute it at one input. -/
def datesExactWrong : ChangeSpec := { name := "datesExact", fn := fun _ => fun
  | [d] => { results := [.lit (.bool false)], args := [d] }
  | _ => none }
def DatesExactWrongFalsely : Prop := datesExactRow.holds Try.pinned (OpenSpec.ofChange datesExactWrong)

/-- 'paymasterlaw06.DatesBack': WHATEVER THE INPUT: true; the input reads as it did. -/
def datesBackSpec : ChangeSpec := { name := "datesBack", fn := fun _ => fun
  | [d] => { results := [.lit (.bool true)], args := [d] }
  | _ => none }
def datesBackRow : OpenClaim := { program := "ytanciheeobgngaa", sum := "c864ad6465d53adcd2725915b9011e48a5db3b2de0161706e2443fbfbd146b3d", func := "paymaster/paymasterlaw06.DatesBack", spec := "datesBack", apart := false }
def DatesBackSaid : Prop := datesBackRow.holds Try.pinned (OpenSpec.ofChange datesBackSpec)

/-- ITS FALSE NEIGHBOUR: 'it returns false'. Refute it at one input. -/
def datesBackWrong : ChangeSpec := { name := "datesBack", fn := fun _ => fun
  | [d] => { results := [.lit (.bool false)], args := [d] }
  | _ => none }
def DatesBackWrongFalsely : Prop := datesBackRow.holds Try.pinned (OpenSpec.ofChange datesBackWrong)

/-- 'paymasterlaw06.DatesDays': WHATEVER THE INPUT: true; the input reads as it did. -/
def datesDaysSpec : ChangeSpec := { name := "datesDays", fn := fun _ => fun
  | [d1, d2, d3] => { results := [.lit (.bool true)], args := [d1, d2, d3] }
  | _ => none }
def datesDaysRow : OpenClaim := { program := "ytanciheeobgngaa", sum := "c864ad6465d53adcd2725915b9011e48a5db3b2de0161706e2443fbfbd146b3d", func := "paymaster/paymasterlaw06.DatesDays", spec := "datesDays", apart := false }
def DatesDaysSaid : Prop := datesDaysRow.holds Try.pinned (OpenSpec.ofChange datesDaysSpec)

/-- ITS FALSE NEIGHBOUR: 'it returns false'. Refute it at one input. -/
def datesDaysWrong : ChangeSpec := { name := "datesDays", fn := fun _ => fun
  | [d1, d2, d3] => { results := [.lit (.bool false)], args := [d1, d2, d3] }
  | _ => none }
def DatesDaysWrongFalsely : Prop := datesDaysRow.holds Try.pinned (OpenSpec.ofChange datesDaysWrong)

/-- 'paymasterlaw06.DatesYears': WHATEVER THE INPUT: true; the input reads as it did. -/
def datesYearsSpec : ChangeSpec := { name := "datesYears", fn := fun _ => fun
  | [d] => { results := [.lit (.bool true)], args := [d] }
  | _ => none }
def datesYearsRow : OpenClaim := { program := "ytanciheeobgngaa", sum := "c864ad6465d53adcd2725915b9011e48a5db3b2de0161706e2443fbfbd146b3d", func := "paymaster/paymasterlaw06.DatesYears", spec := "datesYears", apart := false }
def DatesYearsSaid : Prop := datesYearsRow.holds Try.pinned (OpenSpec.ofChange datesYearsSpec)

/-- ITS FALSE NEIGHBOUR: 'it returns false'. Refute it at one input. -/
def datesYearsWrong : ChangeSpec := { name := "datesYears", fn := fun _ => fun
  | [d] => { results := [.lit (.bool false)], args := [d] }
  | _ => none }
def DatesYearsWrongFalsely : Prop := datesYearsRow.holds Try.pinned (OpenSpec.ofChange datesYearsWrong)

/-- 'paymasterlaw06.DatesPeriods': WHATEVER THE INPUT: true; the input reads as it did. -/
def datesPeriodsSpec : ChangeSpec := { name := "datesPeriods", fn := fun _ => fun
  | [d1, d2, d3] => { results := [.lit (.bool true)], args := [d1, d2, d3] }
  | _ => none }
def datesPeriodsRow : OpenClaim := { program := "ytanciheeobgngaa", sum := "c864ad6465d53adcd2725915b9011e48a5db3b2de0161706e2443fbfbd146b3d", func := "paymaster/paymasterlaw06.DatesPeriods", spec := "datesPeriods", apart := false }
def DatesPeriodsSaid : Prop := datesPeriodsRow.holds Try.pinned (OpenSpec.ofChange datesPeriodsSpec)

/-- ITS FALSE NEIGHBOUR: 'it returns false'. Refute it at one input. -/
def datesPeriodsWrong : ChangeSpec := { name := "datesPeriods", fn := fun _ => fun
  | [d1, d2, d3] => { results := [.lit (.bool false)], args := [d1, d2, d3] }
  | _ => none }
def DatesPeriodsWrongFalsely : Prop := datesPeriodsRow.holds Try.pinned (OpenSpec.ofChange datesPeriodsWrong)

/-- 'paymasterlaw06.DatesOrder': WHATEVER THE INPUT: true; the input reads as it did. -/
def datesOrderSpec : ChangeSpec := { name := "datesOrder", fn := fun _ => fun
  | [d1, d2] => { results := [.lit (.bool true)], args := [d1, d2] }
  | _ => none }
def datesOrderRow : OpenClaim := { program := "ytanciheeobgngaa", sum := "c864ad6465d53adcd2725915b9011e48a5db3b2de0161706e2443fbfbd146b3d", func := "paymaster/paymasterlaw06.DatesOrder", spec := "datesOrder", apart := false }
def DatesOrderSaid : Prop := datesOrderRow.holds Try.pinned (OpenSpec.ofChange datesOrderSpec)

/-- ITS FALSE NEIGHBOUR: 'it returns false'. Refute it at one input. -/
def datesOrderWrong : ChangeSpec := { name := "datesOrder", fn := fun _ => fun
  | [d1, d2] => { results := [.lit (.bool false)], args := [d1, d2] }
  | _ => none }
def DatesOrderWrongFalsely : Prop := datesOrderRow.holds Try.pinned (OpenSpec.ofChange datesOrderWrong)

/-- 'paymasterlaw06.DatesLeap': WHATEVER THE INPUT: true; the input reads as it did. -/
def datesLeapSpec : ChangeSpec := { name := "datesLeap", fn := fun _ => fun
  | [d] => { results := [.lit (.bool true)], args := [d] }
  | _ => none }
def datesLeapRow : OpenClaim := { program := "ytanciheeobgngaa", sum := "c864ad6465d53adcd2725915b9011e48a5db3b2de0161706e2443fbfbd146b3d", func := "paymaster/paymasterlaw06.DatesLeap", spec := "datesLeap", apart := false }
def DatesLeapSaid : Prop := datesLeapRow.holds Try.pinned (OpenSpec.ofChange datesLeapSpec)

/-- ITS FALSE NEIGHBOUR: 'it returns false'. Refute it at one input. -/
def datesLeapWrong : ChangeSpec := { name := "datesLeap", fn := fun _ => fun
  | [d] => { results := [.lit (.bool false)], args := [d] }
  | _ => none }
def DatesLeapWrongFalsely : Prop := datesLeapRow.holds Try.pinned (OpenSpec.ofChange datesLeapWrong)

/- THE SECOND FORM. 'bulk': how many values and letters a reading holds, each counted each time it is reached (what is shared counts as often as it is met; a slice's spare places count too). A statement '..UptoSaid' is the law's where the arguments, and the package variables that the reading takes, are together of bulk at most 1048576: NARROWER than '..Said'. Prove '..Said' where nothing that the law and all that it calls make is longer than what came in: it says more and counts as full. Else prove '..UptoSaid'. A law counts once. -/
mutual
def uptoBulk {H : Type} : DataW H → Nat
  | .lit (.string bytes) => bytes.length + 1
  | .lit _ => 1
  | .nil => 1
  | .ptr d => uptoBulk d + 1
  | .slice elems spare => uptoBulkAll elems + uptoBulkAll spare + 1
  | .agg parts => uptoBulkAll parts + 1
  | .iface _ d => uptoBulk d + 1
  | .map entries => uptoBulkEntries entries + 1
  | .held _ => 1
def uptoBulkAll {H : Type} : List (DataW H) → Nat
  | [] => 0
  | d :: r => uptoBulk d + uptoBulkAll r
def uptoBulkEntries {H : Type} : List (Lit × DataW H) → Nat
  | [] => 0
  | x :: r => uptoBulkEntry x + uptoBulkEntries r
def uptoBulkEntry {H : Type} : Lit × DataW H → Nat
  | (.string bytes, d) => bytes.length + uptoBulk d + 1
  | (_, d) => uptoBulk d + 1
 end
def uptoSmall : (H : Type) → List (DataW H) → Bool := fun _ ds => decide (uptoBulkAll ds ≤ 1048576)
def OpenSpec.upto (s : _root_.Go.ChangeSpec) : _root_.Go.OpenSpec := { _root_.Go.OpenSpec.ofChange s with cond := some uptoSmall }

/-- 'paymasterlaw06.DatesExact', WHERE WHAT IT READS IS OF BULK AT MOST 1048576: true; the input reads as it did. -/
def datesExactUptoRow : OpenClaim := { program := "ytanciheeobgngaa", sum := "c864ad6465d53adcd2725915b9011e48a5db3b2de0161706e2443fbfbd146b3d", func := "paymaster/paymasterlaw06.DatesExact", spec := "datesExact", apart := false, narrowed := true }
def DatesExactUptoSaid : Prop := datesExactUptoRow.holds Try.pinned (OpenSpec.upto datesExactSpec)

/-- 'paymasterlaw06.DatesBack', WHERE WHAT IT READS IS OF BULK AT MOST 1048576: true; the input reads as it did. -/
def datesBackUptoRow : OpenClaim := { program := "ytanciheeobgngaa", sum := "c864ad6465d53adcd2725915b9011e48a5db3b2de0161706e2443fbfbd146b3d", func := "paymaster/paymasterlaw06.DatesBack", spec := "datesBack", apart := false, narrowed := true }
def DatesBackUptoSaid : Prop := datesBackUptoRow.holds Try.pinned (OpenSpec.upto datesBackSpec)

/-- 'paymasterlaw06.DatesDays', WHERE WHAT IT READS IS OF BULK AT MOST 1048576: true; the input reads as it did. -/
def datesDaysUptoRow : OpenClaim := { program := "ytanciheeobgngaa", sum := "c864ad6465d53adcd2725915b9011e48a5db3b2de0161706e2443fbfbd146b3d", func := "paymaster/paymasterlaw06.DatesDays", spec := "datesDays", apart := false, narrowed := true }
def DatesDaysUptoSaid : Prop := datesDaysUptoRow.holds Try.pinned (OpenSpec.upto datesDaysSpec)

/-- 'paymasterlaw06.DatesYears', WHERE WHAT IT READS IS OF BULK AT MOST 1048576: true; the input reads as it did. -/
def datesYearsUptoRow : OpenClaim := { program := "ytanciheeobgngaa", sum := "c864ad6465d53adcd2725915b9011e48a5db3b2de0161706e2443fbfbd146b3d", func := "paymaster/paymasterlaw06.DatesYears", spec := "datesYears", apart := false, narrowed := true }
def DatesYearsUptoSaid : Prop := datesYearsUptoRow.holds Try.pinned (OpenSpec.upto datesYearsSpec)

/-- 'paymasterlaw06.DatesPeriods', WHERE WHAT IT READS IS OF BULK AT MOST 1048576: true; the input reads as it did. -/
def datesPeriodsUptoRow : OpenClaim := { program := "ytanciheeobgngaa", sum := "c864ad6465d53adcd2725915b9011e48a5db3b2de0161706e2443fbfbd146b3d", func := "paymaster/paymasterlaw06.DatesPeriods", spec := "datesPeriods", apart := false, narrowed := true }
def DatesPeriodsUptoSaid : Prop := datesPeriodsUptoRow.holds Try.pinned (OpenSpec.upto datesPeriodsSpec)

/-- 'paymasterlaw06.DatesOrder', WHERE WHAT IT READS IS OF BULK AT MOST 1048576: true; the input reads as it did. -/
def datesOrderUptoRow : OpenClaim := { program := "ytanciheeobgngaa", sum := "c864ad6465d53adcd2725915b9011e48a5db3b2de0161706e2443fbfbd146b3d", func := "paymaster/paymasterlaw06.DatesOrder", spec := "datesOrder", apart := false, narrowed := true }
def DatesOrderUptoSaid : Prop := datesOrderUptoRow.holds Try.pinned (OpenSpec.upto datesOrderSpec)

/-- 'paymasterlaw06.DatesLeap', WHERE WHAT IT READS IS OF BULK AT MOST 1048576: true; the input reads as it did. -/
def datesLeapUptoRow : OpenClaim := { program := "ytanciheeobgngaa", sum := "c864ad6465d53adcd2725915b9011e48a5db3b2de0161706e2443fbfbd146b3d", func := "paymaster/paymasterlaw06.DatesLeap", spec := "datesLeap", apart := false, narrowed := true }
def DatesLeapUptoSaid : Prop := datesLeapUptoRow.holds Try.pinned (OpenSpec.upto datesLeapSpec)

end Rows
end Go.Proofs.Ytanciheeobgngaa
