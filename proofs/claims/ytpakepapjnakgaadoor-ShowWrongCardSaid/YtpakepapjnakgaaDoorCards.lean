/-
  DERIVED. GIVEN WITH THE SEED: THE CARDS: each row of YtpakepapjnakgaaDoorRows.lean that lists a variable, with what it lists TIED to the program's text (the seventh form; the later family's looks); each row that meets fmt, with fmt's text TOLD by the authors' own Lean function (tested against real Go, not proved from fmt's source: count such statements apart). THE CARD IS WHAT COUNTS. Prove the row's statement (the work); the ties are given (YtpakepapjnakgaaDoorTie.lean); close each card by the builder's one call (the guide's Derived/Test/ToyasCard.lean, 'card_holds'). Laid BY PROGRAM, IN A SANDBOX (cutbox-door.mjs). By AI agents, Wed Nov 11 2026. No macro, syntax, notation, axiom, sorry.
-/
import Derived.Test.YtpakepapjnakgaaDoorRows
import GoSem.ClaimSeven
namespace Go.Proofs.YtpakepapjnakgaaDoor
namespace Rows

/-- THE TIED CARD OF 'paymasterlaw09.ShowBack'. -/
def showBackCard : Claim7 := { stood := { row := showBackRow, standIns := [], harness := (true, "a7be60e2f45db4fd371ae2ea99ef794433741858add31fab7aa9bc4297705d02"), looks := true }, kinds := [], alts := [], laidByText := true, laidKinds := [.data, .data, .data, .sentinel, .sentinel], laidTests := true, laidLooks := .later }
def ShowBackCardSaid : Prop := Claim7.holds Tryd.pinned (.plain (OpenSpec.ofChange showBackSpec)) showBackCard

/-- THE TIED CARD OF 'paymasterlaw09.ShowWrong'. -/
def showWrongCard : Claim7 := { stood := { row := showWrongRow, standIns := [], harness := (true, "a7be60e2f45db4fd371ae2ea99ef794433741858add31fab7aa9bc4297705d02"), looks := true }, kinds := [], alts := [], laidByText := true, laidKinds := [.data, .data, .data, .sentinel, .sentinel], laidTests := true, laidLooks := .later }
def ShowWrongCardSaid : Prop := Claim7.holds Tryd.pinned (.plain (OpenSpec.ofChange showWrongSpec)) showWrongCard

/-- THE TIED CARD OF 'paymasterlaw09.ShowBare'. -/
def showBareCard : Claim7 := { stood := { row := showBareRow, standIns := [], harness := (true, "a7be60e2f45db4fd371ae2ea99ef794433741858add31fab7aa9bc4297705d02"), looks := true }, kinds := [], alts := [], laidByText := true, laidKinds := [.data, .data, .data, .sentinel, .sentinel], laidTests := true, laidLooks := .later }
def ShowBareCardSaid : Prop := Claim7.holds Tryd.pinned (.plain (OpenSpec.ofChange showBareSpec)) showBareCard

/-- THE TIED CARD OF 'paymasterlaw09.ShowRules'. -/
def showRulesCard : Claim7 := { stood := { row := showRulesRow, standIns := [], harness := (true, "a7be60e2f45db4fd371ae2ea99ef794433741858add31fab7aa9bc4297705d02"), looks := true }, kinds := [], alts := [], laidByText := true, laidKinds := [.data, .data, .data, .sentinel, .sentinel], laidTests := true, laidLooks := .later }
def ShowRulesCardSaid : Prop := Claim7.holds Tryd.pinned (.plain (OpenSpec.ofChange showRulesSpec)) showRulesCard

/-- THE TIED CARD OF 'paymasterlaw09.ShowExprs'. -/
def showExprsCard : Claim7 := { stood := { row := showExprsRow, standIns := [], harness := (true, "a7be60e2f45db4fd371ae2ea99ef794433741858add31fab7aa9bc4297705d02"), looks := true }, kinds := [], alts := [], laidByText := true, laidKinds := [.data, .data, .data, .sentinel, .sentinel], laidTests := true, laidLooks := .later }
def ShowExprsCardSaid : Prop := Claim7.holds Tryd.pinned (.plain (OpenSpec.ofChange showExprsSpec)) showExprsCard

/-- THE SECOND FORM's CARD OF 'paymasterlaw09.ShowBack'. -/
def showBackUptoCard : Claim7 := { stood := { row := showBackUptoRow, standIns := [], harness := (true, "a7be60e2f45db4fd371ae2ea99ef794433741858add31fab7aa9bc4297705d02"), looks := true }, kinds := [], alts := [], laidByText := true, laidKinds := [.data, .data, .data, .sentinel, .sentinel], laidTests := true, laidLooks := .later }
def ShowBackUptoCardSaid : Prop := Claim7.holds Tryd.pinned (.plain (OpenSpec.upto showBackSpec)) showBackUptoCard

/-- THE SECOND FORM's CARD OF 'paymasterlaw09.ShowWrong'. -/
def showWrongUptoCard : Claim7 := { stood := { row := showWrongUptoRow, standIns := [], harness := (true, "a7be60e2f45db4fd371ae2ea99ef794433741858add31fab7aa9bc4297705d02"), looks := true }, kinds := [], alts := [], laidByText := true, laidKinds := [.data, .data, .data, .sentinel, .sentinel], laidTests := true, laidLooks := .later }
def ShowWrongUptoCardSaid : Prop := Claim7.holds Tryd.pinned (.plain (OpenSpec.upto showWrongSpec)) showWrongUptoCard

/-- THE SECOND FORM's CARD OF 'paymasterlaw09.ShowBare'. -/
def showBareUptoCard : Claim7 := { stood := { row := showBareUptoRow, standIns := [], harness := (true, "a7be60e2f45db4fd371ae2ea99ef794433741858add31fab7aa9bc4297705d02"), looks := true }, kinds := [], alts := [], laidByText := true, laidKinds := [.data, .data, .data, .sentinel, .sentinel], laidTests := true, laidLooks := .later }
def ShowBareUptoCardSaid : Prop := Claim7.holds Tryd.pinned (.plain (OpenSpec.upto showBareSpec)) showBareUptoCard

/-- THE SECOND FORM's CARD OF 'paymasterlaw09.ShowRules'. -/
def showRulesUptoCard : Claim7 := { stood := { row := showRulesUptoRow, standIns := [], harness := (true, "a7be60e2f45db4fd371ae2ea99ef794433741858add31fab7aa9bc4297705d02"), looks := true }, kinds := [], alts := [], laidByText := true, laidKinds := [.data, .data, .data, .sentinel, .sentinel], laidTests := true, laidLooks := .later }
def ShowRulesUptoCardSaid : Prop := Claim7.holds Tryd.pinned (.plain (OpenSpec.upto showRulesSpec)) showRulesUptoCard

/-- THE SECOND FORM's CARD OF 'paymasterlaw09.ShowExprs'. -/
def showExprsUptoCard : Claim7 := { stood := { row := showExprsUptoRow, standIns := [], harness := (true, "a7be60e2f45db4fd371ae2ea99ef794433741858add31fab7aa9bc4297705d02"), looks := true }, kinds := [], alts := [], laidByText := true, laidKinds := [.data, .data, .data, .sentinel, .sentinel], laidTests := true, laidLooks := .later }
def ShowExprsUptoCardSaid : Prop := Claim7.holds Tryd.pinned (.plain (OpenSpec.upto showExprsSpec)) showExprsUptoCard
end Rows
end Go.Proofs.YtpakepapjnakgaaDoor
