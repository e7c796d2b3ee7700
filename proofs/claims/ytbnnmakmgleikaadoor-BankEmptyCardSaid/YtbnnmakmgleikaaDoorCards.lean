/-
  DERIVED. GIVEN WITH THE SEED: THE CARDS: each row of YtbnnmakmgleikaaDoorRows.lean that lists a variable, with what it lists TIED to the program's text (the seventh form; the later family's looks); each row that meets fmt, with fmt's text TOLD by the authors' own Lean function (tested against real Go, not proved from fmt's source: count such statements apart). THE CARD IS WHAT COUNTS. Prove the row's statement (the work); the ties are given (YtbnnmakmgleikaaDoorTie.lean); close each card by the builder's one call (the guide's Derived/Test/ToyasCard.lean, 'card_holds'). Laid BY PROGRAM, IN A SANDBOX (cutbox-door.mjs). By AI agents, Wed Nov 11 2026. No macro, syntax, notation, axiom, sorry.
-/
import Derived.Test.YtbnnmakmgleikaaDoorRows
import GoSem.ClaimSeven
namespace Go.Proofs.YtbnnmakmgleikaaDoor
namespace Rows

/-- THE TIED CARD OF 'paymasterlaw22.BankWrites'. -/
def bankWritesCard : Claim7 := { stood := { row := bankWritesRow, standIns := [], harness := (true, "02afacc5089c587494255deb1a59c85f41590d707c5b80b8713fa2da81a8e58c"), looks := true }, kinds := [], alts := [], laidByText := true, laidKinds := [.data, .data, .data, .sentinel, .sentinel], laidTests := true, laidLooks := .later }
def BankWritesCardSaid : Prop := Claim7.holds Tryd.pinned (.plain (OpenSpec.ofChange bankWritesSpec)) bankWritesCard

/-- THE TIED CARD OF 'paymasterlaw22.BankReads'. -/
def bankReadsCard : Claim7 := { stood := { row := bankReadsRow, standIns := [], harness := (true, "02afacc5089c587494255deb1a59c85f41590d707c5b80b8713fa2da81a8e58c"), looks := true }, kinds := [], alts := [], laidByText := true, laidKinds := [.data, .data, .data, .sentinel, .sentinel], laidTests := true, laidLooks := .later }
def BankReadsCardSaid : Prop := Claim7.holds Tryd.pinned (.plain (OpenSpec.ofChange bankReadsSpec)) bankReadsCard

/-- THE TIED CARD OF 'paymasterlaw22.BankTurned'. -/
def bankTurnedCard : Claim7 := { stood := { row := bankTurnedRow, standIns := [], harness := (true, "02afacc5089c587494255deb1a59c85f41590d707c5b80b8713fa2da81a8e58c"), looks := true }, kinds := [], alts := [], laidByText := true, laidKinds := [.data, .data, .data, .sentinel, .sentinel], laidTests := true, laidLooks := .later }
def BankTurnedCardSaid : Prop := Claim7.holds Tryd.pinned (.plain (OpenSpec.ofChange bankTurnedSpec)) bankTurnedCard

/-- THE TIED CARD OF 'paymasterlaw22.BankLines'. -/
def bankLinesCard : Claim7 := { stood := { row := bankLinesRow, standIns := [], harness := (true, "02afacc5089c587494255deb1a59c85f41590d707c5b80b8713fa2da81a8e58c"), looks := true }, kinds := [], alts := [], laidByText := true, laidKinds := [.data, .data, .data, .sentinel, .sentinel], laidTests := true, laidLooks := .later }
def BankLinesCardSaid : Prop := Claim7.holds Tryd.pinned (.plain (OpenSpec.ofChange bankLinesSpec)) bankLinesCard

/-- THE TIED CARD OF 'paymasterlaw22.BankOrder'. -/
def bankOrderCard : Claim7 := { stood := { row := bankOrderRow, standIns := [], harness := (true, "02afacc5089c587494255deb1a59c85f41590d707c5b80b8713fa2da81a8e58c"), looks := true }, kinds := [], alts := [], laidByText := true, laidKinds := [.data, .data, .data, .sentinel, .sentinel], laidTests := true, laidLooks := .later }
def BankOrderCardSaid : Prop := Claim7.holds Tryd.pinned (.plain (OpenSpec.ofChange bankOrderSpec)) bankOrderCard

/-- THE TIED CARD OF 'paymasterlaw22.BankEmpty'. -/
def bankEmptyCard : Claim7 := { stood := { row := bankEmptyRow, standIns := [], harness := (true, "02afacc5089c587494255deb1a59c85f41590d707c5b80b8713fa2da81a8e58c"), looks := true }, kinds := [], alts := [], laidByText := true, laidKinds := [.data, .data, .data, .sentinel, .sentinel], laidTests := true, laidLooks := .later }
def BankEmptyCardSaid : Prop := Claim7.holds Tryd.pinned (.plain (OpenSpec.ofChange bankEmptySpec)) bankEmptyCard

/-- THE SECOND FORM's CARD OF 'paymasterlaw22.BankWrites'. -/
def bankWritesUptoCard : Claim7 := { stood := { row := bankWritesUptoRow, standIns := [], harness := (true, "02afacc5089c587494255deb1a59c85f41590d707c5b80b8713fa2da81a8e58c"), looks := true }, kinds := [], alts := [], laidByText := true, laidKinds := [.data, .data, .data, .sentinel, .sentinel], laidTests := true, laidLooks := .later }
def BankWritesUptoCardSaid : Prop := Claim7.holds Tryd.pinned (.plain (OpenSpec.upto bankWritesSpec)) bankWritesUptoCard

/-- THE SECOND FORM's CARD OF 'paymasterlaw22.BankReads'. -/
def bankReadsUptoCard : Claim7 := { stood := { row := bankReadsUptoRow, standIns := [], harness := (true, "02afacc5089c587494255deb1a59c85f41590d707c5b80b8713fa2da81a8e58c"), looks := true }, kinds := [], alts := [], laidByText := true, laidKinds := [.data, .data, .data, .sentinel, .sentinel], laidTests := true, laidLooks := .later }
def BankReadsUptoCardSaid : Prop := Claim7.holds Tryd.pinned (.plain (OpenSpec.upto bankReadsSpec)) bankReadsUptoCard

/-- THE SECOND FORM's CARD OF 'paymasterlaw22.BankTurned'. -/
def bankTurnedUptoCard : Claim7 := { stood := { row := bankTurnedUptoRow, standIns := [], harness := (true, "02afacc5089c587494255deb1a59c85f41590d707c5b80b8713fa2da81a8e58c"), looks := true }, kinds := [], alts := [], laidByText := true, laidKinds := [.data, .data, .data, .sentinel, .sentinel], laidTests := true, laidLooks := .later }
def BankTurnedUptoCardSaid : Prop := Claim7.holds Tryd.pinned (.plain (OpenSpec.upto bankTurnedSpec)) bankTurnedUptoCard

/-- THE SECOND FORM's CARD OF 'paymasterlaw22.BankLines'. -/
def bankLinesUptoCard : Claim7 := { stood := { row := bankLinesUptoRow, standIns := [], harness := (true, "02afacc5089c587494255deb1a59c85f41590d707c5b80b8713fa2da81a8e58c"), looks := true }, kinds := [], alts := [], laidByText := true, laidKinds := [.data, .data, .data, .sentinel, .sentinel], laidTests := true, laidLooks := .later }
def BankLinesUptoCardSaid : Prop := Claim7.holds Tryd.pinned (.plain (OpenSpec.upto bankLinesSpec)) bankLinesUptoCard

/-- THE SECOND FORM's CARD OF 'paymasterlaw22.BankOrder'. -/
def bankOrderUptoCard : Claim7 := { stood := { row := bankOrderUptoRow, standIns := [], harness := (true, "02afacc5089c587494255deb1a59c85f41590d707c5b80b8713fa2da81a8e58c"), looks := true }, kinds := [], alts := [], laidByText := true, laidKinds := [.data, .data, .data, .sentinel, .sentinel], laidTests := true, laidLooks := .later }
def BankOrderUptoCardSaid : Prop := Claim7.holds Tryd.pinned (.plain (OpenSpec.upto bankOrderSpec)) bankOrderUptoCard

/-- THE SECOND FORM's CARD OF 'paymasterlaw22.BankEmpty'. -/
def bankEmptyUptoCard : Claim7 := { stood := { row := bankEmptyUptoRow, standIns := [], harness := (true, "02afacc5089c587494255deb1a59c85f41590d707c5b80b8713fa2da81a8e58c"), looks := true }, kinds := [], alts := [], laidByText := true, laidKinds := [.data, .data, .data, .sentinel, .sentinel], laidTests := true, laidLooks := .later }
def BankEmptyUptoCardSaid : Prop := Claim7.holds Tryd.pinned (.plain (OpenSpec.upto bankEmptySpec)) bankEmptyUptoCard
end Rows
end Go.Proofs.YtbnnmakmgleikaaDoor
