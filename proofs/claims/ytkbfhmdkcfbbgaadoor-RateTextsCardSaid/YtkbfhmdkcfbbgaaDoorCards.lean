/-
  DERIVED. GIVEN WITH THE SEED: THE CARDS: each row of YtkbfhmdkcfbbgaaDoorRows.lean that lists a variable, with what it lists TIED to the program's text (the seventh form; the later family's looks); each row that meets fmt, with fmt's text TOLD by the authors' own Lean function (tested against real Go, not proved from fmt's source: count such statements apart). THE CARD IS WHAT COUNTS. Prove the row's statement (the work); the ties are given (YtkbfhmdkcfbbgaaDoorTie.lean); close each card by the builder's one call (the guide's Derived/Test/ToyasCard.lean, 'card_holds'). Laid BY PROGRAM, IN A SANDBOX (cutbox-door.mjs). By AI agents, Wed Nov 11 2026. No macro, syntax, notation, axiom, sorry.
-/
import Derived.Test.YtkbfhmdkcfbbgaaDoorRows
import GoSem.ClaimSeven
namespace Go.Proofs.YtkbfhmdkcfbbgaaDoor
namespace Rows

/-- THE TIED CARD OF 'paymasterlaw03.RateTexts'. -/
def rateTextsCard : Claim7 := { stood := { row := rateTextsRow, standIns := [], harness := (true, "f4d1d0f971aca243633fff5d63c37a7cf01c881d8382ff9df05c517e8a02be32"), looks := false }, kinds := [], alts := [], laidByText := true, laidKinds := [.data, .data, .data], laidTests := true, laidLooks := .later }
def RateTextsCardSaid : Prop := Claim7.holds Tryd.pinned (.plain (OpenSpec.ofChange rateTextsSpec)) rateTextsCard

/-- THE TIED CARD OF 'paymasterlaw03.RateOrder'. -/
def rateOrderCard : Claim7 := { stood := { row := rateOrderRow, standIns := [], harness := (true, "f4d1d0f971aca243633fff5d63c37a7cf01c881d8382ff9df05c517e8a02be32"), looks := false }, kinds := [], alts := [], laidByText := true, laidKinds := [.data, .data, .data], laidTests := true, laidLooks := .later }
def RateOrderCardSaid : Prop := Claim7.holds Tryd.pinned (.plain (OpenSpec.ofChange rateOrderSpec)) rateOrderCard

/-- THE SECOND FORM's CARD OF 'paymasterlaw03.RateTexts'. -/
def rateTextsUptoCard : Claim7 := { stood := { row := rateTextsUptoRow, standIns := [], harness := (true, "f4d1d0f971aca243633fff5d63c37a7cf01c881d8382ff9df05c517e8a02be32"), looks := false }, kinds := [], alts := [], laidByText := true, laidKinds := [.data, .data, .data], laidTests := true, laidLooks := .later }
def RateTextsUptoCardSaid : Prop := Claim7.holds Tryd.pinned (.plain (OpenSpec.upto rateTextsSpec)) rateTextsUptoCard

/-- THE SECOND FORM's CARD OF 'paymasterlaw03.RateOrder'. -/
def rateOrderUptoCard : Claim7 := { stood := { row := rateOrderUptoRow, standIns := [], harness := (true, "f4d1d0f971aca243633fff5d63c37a7cf01c881d8382ff9df05c517e8a02be32"), looks := false }, kinds := [], alts := [], laidByText := true, laidKinds := [.data, .data, .data], laidTests := true, laidLooks := .later }
def RateOrderUptoCardSaid : Prop := Claim7.holds Tryd.pinned (.plain (OpenSpec.upto rateOrderSpec)) rateOrderUptoCard
end Rows
end Go.Proofs.YtkbfhmdkcfbbgaaDoor
