/-
  No cell of these rows narrows 'for every input' (looked for: loops, veiled, ifaces, maps, wideKeys, modest, calm, conditions, laid).
  DERIVED. THE GIVEN ROWS OF THIS SEAT. 5 by the template 'for every input the law returns true; each argument reads behind the call as it read before'; 0 by the template 'total and deterministic' (their statements: YtbnnmakmgleikaaTotals.lean).
  GIVEN WITH THE SEED: the statements are not yours to turn. If you find one false, say at which input.
  Laid BY PROGRAM, IN A SANDBOX (cutbox-rows.mjs): the forced cells as the released guide's own fill.sh prints them over the translation 47450263d7ae2576… (all of the seat's roots in one cut). By AI agents, Wed Nov 11 2026. No macro, syntax, notation, axiom, sorry.
-/
import Derived.Test.YtbnnmakmgleikaaChecked
import GoSem.Claim
import GoSem.ClaimJoined
import GoSem.ClaimMapViews
import Derived.JoinedTies
import Derived.KernelRfl
namespace Go.Proofs.Ytbnnmakmgleikaa
/- THE CELL 'sum', in the pinned program and in every row, IS THE sha256 OF THE DUMP (.gsa) THAT YtbnnmakmgleikaaProg.lean LOADS. Nothing in Lean hashes anything: it is a label: what it is worth is what the hold of that sum in a sandbox is worth. -/
noncomputable def Try.pinned : Pinned := { name := "ytbnnmakmgleikaa", sum := "47450263d7ae25762928046887a4b758cda866e27b1363bdc4fe36779db7b34f", checked := Try.checked }
namespace Rows
def none {H : Type} : Left H := { results := [], args := [] }

/-- 'paymasterlaw13.MasterStaff': WHATEVER THE INPUT: true; the input reads as it did. -/
def masterStaffSpec : ChangeSpec := { name := "masterStaff", fn := fun _ => fun
  | [d1, d2] => { results := [.lit (.bool true)], args := [d1, d2] }
  | _ => none }
def masterStaffRow : OpenClaim := { program := "ytbnnmakmgleikaa", sum := "47450263d7ae25762928046887a4b758cda866e27b1363bdc4fe36779db7b34f", func := "paymaster/paymasterlaw13.MasterStaff", spec := "masterStaff", unfollowed := true, recurses := true, apart := false }
def MasterStaffSaid : Prop := masterStaffRow.holds Try.pinned (OpenSpec.ofChange masterStaffSpec)

/-- ITS FALSE NEIGHBOUR: 'it returns false'. Refute it at one input. -/
def masterStaffWrong : ChangeSpec := { name := "masterStaff", fn := fun _ => fun
  | [d1, d2] => { results := [.lit (.bool false)], args := [d1, d2] }
  | _ => none }
def MasterStaffWrongFalsely : Prop := masterStaffRow.holds Try.pinned (OpenSpec.ofChange masterStaffWrong)

/-- 'paymasterlaw13.MasterKeeps': WHATEVER THE INPUT: true; the input reads as it did. -/
def masterKeepsSpec : ChangeSpec := { name := "masterKeeps", fn := fun _ => fun
  | [d1, d2, d3, d4] => { results := [.lit (.bool true)], args := [d1, d2, d3, d4] }
  | _ => none }
def masterKeepsRow : OpenClaim := { program := "ytbnnmakmgleikaa", sum := "47450263d7ae25762928046887a4b758cda866e27b1363bdc4fe36779db7b34f", func := "paymaster/paymasterlaw13.MasterKeeps", spec := "masterKeeps", unfollowed := true, recurses := true, apart := false }
def MasterKeepsSaid : Prop := masterKeepsRow.holds Try.pinned (OpenSpec.ofChange masterKeepsSpec)

/-- ITS FALSE NEIGHBOUR: 'it returns false'. Refute it at one input. -/
def masterKeepsWrong : ChangeSpec := { name := "masterKeeps", fn := fun _ => fun
  | [d1, d2, d3, d4] => { results := [.lit (.bool false)], args := [d1, d2, d3, d4] }
  | _ => none }
def MasterKeepsWrongFalsely : Prop := masterKeepsRow.holds Try.pinned (OpenSpec.ofChange masterKeepsWrong)

/-- 'paymasterlaw13.MasterFull': WHATEVER THE INPUT: true; the input reads as it did. -/
def masterFullSpec : ChangeSpec := { name := "masterFull", fn := fun _ => fun
  | [d1, d2] => { results := [.lit (.bool true)], args := [d1, d2] }
  | _ => none }
def masterFullRow : OpenClaim := { program := "ytbnnmakmgleikaa", sum := "47450263d7ae25762928046887a4b758cda866e27b1363bdc4fe36779db7b34f", func := "paymaster/paymasterlaw13.MasterFull", spec := "masterFull", unfollowed := true, recurses := true, apart := false }
def MasterFullSaid : Prop := masterFullRow.holds Try.pinned (OpenSpec.ofChange masterFullSpec)

/-- ITS FALSE NEIGHBOUR: 'it returns false'. Refute it at one input. -/
def masterFullWrong : ChangeSpec := { name := "masterFull", fn := fun _ => fun
  | [d1, d2] => { results := [.lit (.bool false)], args := [d1, d2] }
  | _ => none }
def MasterFullWrongFalsely : Prop := masterFullRow.holds Try.pinned (OpenSpec.ofChange masterFullWrong)

/-- 'paymasterlaw13.MasterClaims': WHATEVER THE INPUT: true; the input reads as it did. -/
def masterClaimsSpec : ChangeSpec := { name := "masterClaims", fn := fun _ => fun
  | [d] => { results := [.lit (.bool true)], args := [d] }
  | _ => none }
def masterClaimsRow : OpenClaim := { program := "ytbnnmakmgleikaa", sum := "47450263d7ae25762928046887a4b758cda866e27b1363bdc4fe36779db7b34f", func := "paymaster/paymasterlaw13.MasterClaims", spec := "masterClaims", unfollowed := true, recurses := true, apart := false }
def MasterClaimsSaid : Prop := masterClaimsRow.holds Try.pinned (OpenSpec.ofChange masterClaimsSpec)

/-- ITS FALSE NEIGHBOUR: 'it returns false'. Refute it at one input. -/
def masterClaimsWrong : ChangeSpec := { name := "masterClaims", fn := fun _ => fun
  | [d] => { results := [.lit (.bool false)], args := [d] }
  | _ => none }
def MasterClaimsWrongFalsely : Prop := masterClaimsRow.holds Try.pinned (OpenSpec.ofChange masterClaimsWrong)

/-- 'paymasterlaw13.MasterLine': WHATEVER THE INPUT: true; the input reads as it did. -/
def masterLineSpec : ChangeSpec := { name := "masterLine", fn := fun _ => fun
  | [d1, d2] => { results := [.lit (.bool true)], args := [d1, d2] }
  | _ => none }
def masterLineRow : OpenClaim := { program := "ytbnnmakmgleikaa", sum := "47450263d7ae25762928046887a4b758cda866e27b1363bdc4fe36779db7b34f", func := "paymaster/paymasterlaw13.MasterLine", spec := "masterLine", unfollowed := true, recurses := true, apart := false }
def MasterLineSaid : Prop := masterLineRow.holds Try.pinned (OpenSpec.ofChange masterLineSpec)

/-- ITS FALSE NEIGHBOUR: 'it returns false'. Refute it at one input. -/
def masterLineWrong : ChangeSpec := { name := "masterLine", fn := fun _ => fun
  | [d1, d2] => { results := [.lit (.bool false)], args := [d1, d2] }
  | _ => none }
def MasterLineWrongFalsely : Prop := masterLineRow.holds Try.pinned (OpenSpec.ofChange masterLineWrong)

/- THE SECOND FORM. 'bulk': how many values and letters a reading holds, each counted each time it is reached (what is shared counts as often as it is met; a slice's spare places count too). A statement '..UptoSaid' is the law's where the arguments, and the package variables that the reading takes, are together of bulk at most 1048576: NARROWER than '..Said'. Prove '..Said' where nothing that the law and all that it calls make is longer than what came in: it says more and counts as full. Else prove '..UptoSaid'. A law counts once. -/
mutual
def uptoBulk {H : Type} : DataW H → Nat
  | .lit (.string bytes) => bytes.length + 1
  | .lit _ => 1
  | .nil => 1
  | .ptr d => uptoBulk d + 1
  | .slice elems spare => uptoBulkAll elems + uptoBulkAll spare + 1
  | .agg parts => uptoBulkAll parts + 1
  | .iface _ d => uptoBulk d + 1
  | .map entries => uptoBulkEntries entries + 1
  | .held _ => 1
def uptoBulkAll {H : Type} : List (DataW H) → Nat
  | [] => 0
  | d :: r => uptoBulk d + uptoBulkAll r
def uptoBulkEntries {H : Type} : List (Lit × DataW H) → Nat
  | [] => 0
  | x :: r => uptoBulkEntry x + uptoBulkEntries r
def uptoBulkEntry {H : Type} : Lit × DataW H → Nat
  | (.string bytes, d) => bytes.length + uptoBulk d + 1
  | (_, d) => uptoBulk d + 1
 end
def uptoSmall : (H : Type) → List (DataW H) → Bool := fun _ ds => decide (uptoBulkAll ds ≤ 1048576)
def OpenSpec.upto (s : _root_.Go.ChangeSpec) : _root_.Go.OpenSpec := { _root_.Go.OpenSpec.ofChange s with cond := some uptoSmall }

/-- 'paymasterlaw13.MasterStaff', WHERE WHAT IT READS IS OF BULK AT MOST 1048576: true; the input reads as it did. -/
def masterStaffUptoRow : OpenClaim := { program := "ytbnnmakmgleikaa", sum := "47450263d7ae25762928046887a4b758cda866e27b1363bdc4fe36779db7b34f", func := "paymaster/paymasterlaw13.MasterStaff", spec := "masterStaff", unfollowed := true, recurses := true, apart := false, narrowed := true }
def MasterStaffUptoSaid : Prop := masterStaffUptoRow.holds Try.pinned (OpenSpec.upto masterStaffSpec)

/-- 'paymasterlaw13.MasterKeeps', WHERE WHAT IT READS IS OF BULK AT MOST 1048576: true; the input reads as it did. -/
def masterKeepsUptoRow : OpenClaim := { program := "ytbnnmakmgleikaa", sum := "47450263d7ae25762928046887a4b758cda866e27b1363bdc4fe36779db7b34f", func := "paymaster/paymasterlaw13.MasterKeeps", spec := "masterKeeps", unfollowed := true, recurses := true, apart := false, narrowed := true }
def MasterKeepsUptoSaid : Prop := masterKeepsUptoRow.holds Try.pinned (OpenSpec.upto masterKeepsSpec)

/-- 'paymasterlaw13.MasterFull', WHERE WHAT IT READS IS OF BULK AT MOST 1048576: true; the input reads as it did. -/
def masterFullUptoRow : OpenClaim := { program := "ytbnnmakmgleikaa", sum := "47450263d7ae25762928046887a4b758cda866e27b1363bdc4fe36779db7b34f", func := "paymaster/paymasterlaw13.MasterFull", spec := "masterFull", unfollowed := true, recurses := true, apart := false, narrowed := true }
def MasterFullUptoSaid : Prop := masterFullUptoRow.holds Try.pinned (OpenSpec.upto masterFullSpec)

/-- 'paymasterlaw13.MasterClaims', WHERE WHAT IT READS IS OF BULK AT MOST 1048576: true; the input reads as it did. -/
def masterClaimsUptoRow : OpenClaim := { program := "ytbnnmakmgleikaa", sum := "47450263d7ae25762928046887a4b758cda866e27b1363bdc4fe36779db7b34f", func := "paymaster/paymasterlaw13.MasterClaims", spec := "masterClaims", unfollowed := true, recurses := true, apart := false, narrowed := true }
def MasterClaimsUptoSaid : Prop := masterClaimsUptoRow.holds Try.pinned (OpenSpec.upto masterClaimsSpec)

/-- 'paymasterlaw13.MasterLine', WHERE WHAT IT READS IS OF BULK AT MOST 1048576: true; the input reads as it did. -/
def masterLineUptoRow : OpenClaim := { program := "ytbnnmakmgleikaa", sum := "47450263d7ae25762928046887a4b758cda866e27b1363bdc4fe36779db7b34f", func := "paymaster/paymasterlaw13.MasterLine", spec := "masterLine", unfollowed := true, recurses := true, apart := false, narrowed := true }
def MasterLineUptoSaid : Prop := masterLineUptoRow.holds Try.pinned (OpenSpec.upto masterLineSpec)

end Rows
end Go.Proofs.Ytbnnmakmgleikaa
