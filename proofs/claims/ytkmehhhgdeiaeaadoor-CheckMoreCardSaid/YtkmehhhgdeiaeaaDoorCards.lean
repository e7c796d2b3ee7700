/-
  DERIVED. GIVEN WITH THE SEED: THE CARDS: each row of YtkmehhhgdeiaeaaDoorRows.lean that lists a variable, with what it lists TIED to the program's text (the seventh form; the later family's looks); each row that meets fmt, with fmt's text TOLD by the authors' own Lean function (tested against real Go, not proved from fmt's source: count such statements apart). THE CARD IS WHAT COUNTS. Prove the row's statement (the work); the ties are given (YtkmehhhgdeiaeaaDoorTie.lean); close each card by the builder's one call (the guide's Derived/Test/ToyasCard.lean, 'card_holds'). Laid BY PROGRAM, IN A SANDBOX (cutbox-door.mjs). By AI agents, Wed Nov 11 2026. No macro, syntax, notation, axiom, sorry.
-/
import Derived.Test.YtkmehhhgdeiaeaaDoorRows
import GoSem.ClaimSeven
namespace Go.Proofs.YtkmehhhgdeiaeaaDoor
namespace Rows

/-- THE TIED CARD OF 'paymasterlaw10.CheckKinds'. -/
def checkKindsCard : Claim7 := { stood := { row := checkKindsRow, standIns := [], harness := (true, "96d9c3f1876dae672b6b9f3ca74cefe8fe28e305f8c7544cea6adead1c39cfd3"), looks := true }, kinds := [], alts := [], laidByText := true, laidKinds := [.data, .data, .data, .sentinel, .sentinel], laidTests := true, laidLooks := .later }
def CheckKindsCardSaid : Prop := Claim7.holds Tryd.pinned (.plain (OpenSpec.ofChange checkKindsSpec)) checkKindsCard

/-- THE TIED CARD OF 'paymasterlaw10.CheckMore'. -/
def checkMoreCard : Claim7 := { stood := { row := checkMoreRow, standIns := [], harness := (true, "96d9c3f1876dae672b6b9f3ca74cefe8fe28e305f8c7544cea6adead1c39cfd3"), looks := true }, kinds := [], alts := [], laidByText := true, laidKinds := [.data, .data, .data, .sentinel, .sentinel], laidTests := true, laidLooks := .later }
def CheckMoreCardSaid : Prop := Claim7.holds Tryd.pinned (.plain (OpenSpec.ofChange checkMoreSpec)) checkMoreCard

/-- THE TIED CARD OF 'paymasterlaw10.CheckTwice'. -/
def checkTwiceCard : Claim7 := { stood := { row := checkTwiceRow, standIns := [], harness := (true, "96d9c3f1876dae672b6b9f3ca74cefe8fe28e305f8c7544cea6adead1c39cfd3"), looks := true }, kinds := [], alts := [], laidByText := true, laidKinds := [.data, .data, .data, .sentinel, .sentinel], laidTests := true, laidLooks := .later }
def CheckTwiceCardSaid : Prop := Claim7.holds Tryd.pinned (.plain (OpenSpec.ofChange checkTwiceSpec)) checkTwiceCard

/-- THE TIED CARD OF 'paymasterlaw10.CheckNames'. -/
def checkNamesCard : Claim7 := { stood := { row := checkNamesRow, standIns := [], harness := (true, "96d9c3f1876dae672b6b9f3ca74cefe8fe28e305f8c7544cea6adead1c39cfd3"), looks := true }, kinds := [], alts := [], laidByText := true, laidKinds := [.data, .data, .data, .sentinel, .sentinel], laidTests := true, laidLooks := .later }
def CheckNamesCardSaid : Prop := Claim7.holds Tryd.pinned (.plain (OpenSpec.ofChange checkNamesSpec)) checkNamesCard

/-- THE TIED CARD OF 'paymasterlaw10.CheckNeg'. -/
def checkNegCard : Claim7 := { stood := { row := checkNegRow, standIns := [], harness := (true, "96d9c3f1876dae672b6b9f3ca74cefe8fe28e305f8c7544cea6adead1c39cfd3"), looks := true }, kinds := [], alts := [], laidByText := true, laidKinds := [.data, .data, .data, .sentinel, .sentinel], laidTests := true, laidLooks := .later }
def CheckNegCardSaid : Prop := Claim7.holds Tryd.pinned (.plain (OpenSpec.ofChange checkNegSpec)) checkNegCard

/-- THE TIED CARD OF 'paymasterlaw10.CheckIf'. -/
def checkIfCard : Claim7 := { stood := { row := checkIfRow, standIns := [], harness := (true, "96d9c3f1876dae672b6b9f3ca74cefe8fe28e305f8c7544cea6adead1c39cfd3"), looks := true }, kinds := [], alts := [], laidByText := true, laidKinds := [.data, .data, .data, .sentinel, .sentinel], laidTests := true, laidLooks := .later }
def CheckIfCardSaid : Prop := Claim7.holds Tryd.pinned (.plain (OpenSpec.ofChange checkIfSpec)) checkIfCard

/-- THE SECOND FORM's CARD OF 'paymasterlaw10.CheckKinds'. -/
def checkKindsUptoCard : Claim7 := { stood := { row := checkKindsUptoRow, standIns := [], harness := (true, "96d9c3f1876dae672b6b9f3ca74cefe8fe28e305f8c7544cea6adead1c39cfd3"), looks := true }, kinds := [], alts := [], laidByText := true, laidKinds := [.data, .data, .data, .sentinel, .sentinel], laidTests := true, laidLooks := .later }
def CheckKindsUptoCardSaid : Prop := Claim7.holds Tryd.pinned (.plain (OpenSpec.upto checkKindsSpec)) checkKindsUptoCard

/-- THE SECOND FORM's CARD OF 'paymasterlaw10.CheckMore'. -/
def checkMoreUptoCard : Claim7 := { stood := { row := checkMoreUptoRow, standIns := [], harness := (true, "96d9c3f1876dae672b6b9f3ca74cefe8fe28e305f8c7544cea6adead1c39cfd3"), looks := true }, kinds := [], alts := [], laidByText := true, laidKinds := [.data, .data, .data, .sentinel, .sentinel], laidTests := true, laidLooks := .later }
def CheckMoreUptoCardSaid : Prop := Claim7.holds Tryd.pinned (.plain (OpenSpec.upto checkMoreSpec)) checkMoreUptoCard

/-- THE SECOND FORM's CARD OF 'paymasterlaw10.CheckTwice'. -/
def checkTwiceUptoCard : Claim7 := { stood := { row := checkTwiceUptoRow, standIns := [], harness := (true, "96d9c3f1876dae672b6b9f3ca74cefe8fe28e305f8c7544cea6adead1c39cfd3"), looks := true }, kinds := [], alts := [], laidByText := true, laidKinds := [.data, .data, .data, .sentinel, .sentinel], laidTests := true, laidLooks := .later }
def CheckTwiceUptoCardSaid : Prop := Claim7.holds Tryd.pinned (.plain (OpenSpec.upto checkTwiceSpec)) checkTwiceUptoCard

/-- THE SECOND FORM's CARD OF 'paymasterlaw10.CheckNames'. -/
def checkNamesUptoCard : Claim7 := { stood := { row := checkNamesUptoRow, standIns := [], harness := (true, "96d9c3f1876dae672b6b9f3ca74cefe8fe28e305f8c7544cea6adead1c39cfd3"), looks := true }, kinds := [], alts := [], laidByText := true, laidKinds := [.data, .data, .data, .sentinel, .sentinel], laidTests := true, laidLooks := .later }
def CheckNamesUptoCardSaid : Prop := Claim7.holds Tryd.pinned (.plain (OpenSpec.upto checkNamesSpec)) checkNamesUptoCard

/-- THE SECOND FORM's CARD OF 'paymasterlaw10.CheckNeg'. -/
def checkNegUptoCard : Claim7 := { stood := { row := checkNegUptoRow, standIns := [], harness := (true, "96d9c3f1876dae672b6b9f3ca74cefe8fe28e305f8c7544cea6adead1c39cfd3"), looks := true }, kinds := [], alts := [], laidByText := true, laidKinds := [.data, .data, .data, .sentinel, .sentinel], laidTests := true, laidLooks := .later }
def CheckNegUptoCardSaid : Prop := Claim7.holds Tryd.pinned (.plain (OpenSpec.upto checkNegSpec)) checkNegUptoCard

/-- THE SECOND FORM's CARD OF 'paymasterlaw10.CheckIf'. -/
def checkIfUptoCard : Claim7 := { stood := { row := checkIfUptoRow, standIns := [], harness := (true, "96d9c3f1876dae672b6b9f3ca74cefe8fe28e305f8c7544cea6adead1c39cfd3"), looks := true }, kinds := [], alts := [], laidByText := true, laidKinds := [.data, .data, .data, .sentinel, .sentinel], laidTests := true, laidLooks := .later }
def CheckIfUptoCardSaid : Prop := Claim7.holds Tryd.pinned (.plain (OpenSpec.upto checkIfSpec)) checkIfUptoCard
end Rows
end Go.Proofs.YtkmehhhgdeiaeaaDoor
