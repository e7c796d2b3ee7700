/-
  DERIVED. GIVEN WITH THE SEED: THE CARDS: each row of YtdkcdgjpcojdfaaGreatDoorRows.lean that lists a variable, with what it lists TIED to the program's text (the seventh form; the later family's looks); each row that meets fmt, with fmt's text TOLD by the authors' own Lean function (tested against real Go, not proved from fmt's source: count such statements apart). THE CARD IS WHAT COUNTS. Prove the row's statement (the work); the ties are given (YtdkcdgjpcojdfaaGreatDoorTie.lean); close each card by the builder's one call (the guide's Derived/Test/ToyasCard.lean, 'card_holds'). Laid BY PROGRAM, IN A SANDBOX (cutbox-door.mjs). By AI agents, Wed Nov 11 2026. No macro, syntax, notation, axiom, sorry.
-/
import Derived.Test.YtdkcdgjpcojdfaaGreatDoorRows
import GoSem.ClaimSeven
namespace Go.Proofs.YtdkcdgjpcojdfaaGreatDoor
namespace Rows

/-- THE TIED CARD OF 'paymasterlaw11.OrderExact'. -/
def orderExactCard : Claim7 := { stood := { row := orderExactRow, standIns := [], harness := (true, "3108f9c78a80954a3dc2bfacda332099d5decfb803ff963c05bd49072cf14424"), looks := true }, kinds := [], alts := [], laidByText := true, laidKinds := [.data, .data, .data, .sentinel, .sentinel], laidTests := true, laidLooks := .later }
def OrderExactCardSaid : Prop := Claim7.holds Tryz.pinned (.plain (OpenSpec.ofChange orderExactSpec)) orderExactCard

/-- THE TIED CARD OF 'paymasterlaw11.OrderHangs'. -/
def orderHangsCard : Claim7 := { stood := { row := orderHangsRow, standIns := [], harness := (true, "3108f9c78a80954a3dc2bfacda332099d5decfb803ff963c05bd49072cf14424"), looks := true }, kinds := [], alts := [], laidByText := true, laidKinds := [.data, .data, .data, .sentinel, .sentinel], laidTests := true, laidLooks := .later }
def OrderHangsCardSaid : Prop := Claim7.holds Tryz.pinned (.plain (OpenSpec.ofChange orderHangsSpec)) orderHangsCard

/-- THE TIED CARD OF 'paymasterlaw11.OrderMore'. -/
def orderMoreCard : Claim7 := { stood := { row := orderMoreRow, standIns := [], harness := (true, "3108f9c78a80954a3dc2bfacda332099d5decfb803ff963c05bd49072cf14424"), looks := true }, kinds := [], alts := [], laidByText := true, laidKinds := [.data, .data, .data, .sentinel, .sentinel], laidTests := true, laidLooks := .later }
def OrderMoreCardSaid : Prop := Claim7.holds Tryz.pinned (.plain (OpenSpec.ofChange orderMoreSpec)) orderMoreCard

/-- THE TIED CARD OF 'paymasterlaw11.OrderChain'. -/
def orderChainCard : Claim7 := { stood := { row := orderChainRow, standIns := [], harness := (true, "3108f9c78a80954a3dc2bfacda332099d5decfb803ff963c05bd49072cf14424"), looks := true }, kinds := [], alts := [], laidByText := true, laidKinds := [.data, .data, .data, .sentinel, .sentinel], laidTests := true, laidLooks := .later }
def OrderChainCardSaid : Prop := Claim7.holds Tryz.pinned (.plain (OpenSpec.ofChange orderChainSpec)) orderChainCard

/-- THE TIED CARD OF 'paymasterlaw11.OrderFree'. -/
def orderFreeCard : Claim7 := { stood := { row := orderFreeRow, standIns := [], harness := (true, "3108f9c78a80954a3dc2bfacda332099d5decfb803ff963c05bd49072cf14424"), looks := true }, kinds := [], alts := [], laidByText := true, laidKinds := [.data, .data, .data, .sentinel, .sentinel], laidTests := true, laidLooks := .later }
def OrderFreeCardSaid : Prop := Claim7.holds Tryz.pinned (.plain (OpenSpec.ofChange orderFreeSpec)) orderFreeCard

/-- THE SECOND FORM's CARD OF 'paymasterlaw11.OrderExact'. -/
def orderExactUptoCard : Claim7 := { stood := { row := orderExactUptoRow, standIns := [], harness := (true, "3108f9c78a80954a3dc2bfacda332099d5decfb803ff963c05bd49072cf14424"), looks := true }, kinds := [], alts := [], laidByText := true, laidKinds := [.data, .data, .data, .sentinel, .sentinel], laidTests := true, laidLooks := .later }
def OrderExactUptoCardSaid : Prop := Claim7.holds Tryz.pinned (.plain (OpenSpec.upto orderExactSpec)) orderExactUptoCard

/-- THE SECOND FORM's CARD OF 'paymasterlaw11.OrderHangs'. -/
def orderHangsUptoCard : Claim7 := { stood := { row := orderHangsUptoRow, standIns := [], harness := (true, "3108f9c78a80954a3dc2bfacda332099d5decfb803ff963c05bd49072cf14424"), looks := true }, kinds := [], alts := [], laidByText := true, laidKinds := [.data, .data, .data, .sentinel, .sentinel], laidTests := true, laidLooks := .later }
def OrderHangsUptoCardSaid : Prop := Claim7.holds Tryz.pinned (.plain (OpenSpec.upto orderHangsSpec)) orderHangsUptoCard

/-- THE SECOND FORM's CARD OF 'paymasterlaw11.OrderMore'. -/
def orderMoreUptoCard : Claim7 := { stood := { row := orderMoreUptoRow, standIns := [], harness := (true, "3108f9c78a80954a3dc2bfacda332099d5decfb803ff963c05bd49072cf14424"), looks := true }, kinds := [], alts := [], laidByText := true, laidKinds := [.data, .data, .data, .sentinel, .sentinel], laidTests := true, laidLooks := .later }
def OrderMoreUptoCardSaid : Prop := Claim7.holds Tryz.pinned (.plain (OpenSpec.upto orderMoreSpec)) orderMoreUptoCard

/-- THE SECOND FORM's CARD OF 'paymasterlaw11.OrderChain'. -/
def orderChainUptoCard : Claim7 := { stood := { row := orderChainUptoRow, standIns := [], harness := (true, "3108f9c78a80954a3dc2bfacda332099d5decfb803ff963c05bd49072cf14424"), looks := true }, kinds := [], alts := [], laidByText := true, laidKinds := [.data, .data, .data, .sentinel, .sentinel], laidTests := true, laidLooks := .later }
def OrderChainUptoCardSaid : Prop := Claim7.holds Tryz.pinned (.plain (OpenSpec.upto orderChainSpec)) orderChainUptoCard

/-- THE SECOND FORM's CARD OF 'paymasterlaw11.OrderFree'. -/
def orderFreeUptoCard : Claim7 := { stood := { row := orderFreeUptoRow, standIns := [], harness := (true, "3108f9c78a80954a3dc2bfacda332099d5decfb803ff963c05bd49072cf14424"), looks := true }, kinds := [], alts := [], laidByText := true, laidKinds := [.data, .data, .data, .sentinel, .sentinel], laidTests := true, laidLooks := .later }
def OrderFreeUptoCardSaid : Prop := Claim7.holds Tryz.pinned (.plain (OpenSpec.upto orderFreeSpec)) orderFreeUptoCard
end Rows
end Go.Proofs.YtdkcdgjpcojdfaaGreatDoor
