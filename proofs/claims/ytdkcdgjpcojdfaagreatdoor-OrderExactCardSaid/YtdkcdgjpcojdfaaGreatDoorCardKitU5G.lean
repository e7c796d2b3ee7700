/-
  What every card of this seat uses, where the walks read the table of powers of ten and that of the lowest bit's place, two of the five listed variables.
-/
import Derived.Test.YtdkcdgjpcojdfaaGreatDoorCardKit5
import Derived.Test.YtdkcdgjpcojdfaaGreatDoorOH

namespace Go.Proofs.YtdkcdgjpcojdfaaGreatDoor
open Go.ChangeShapes Go.WideShapes Go.ChangeAt Go.RowKit

theorem gTab : Tryz.prog.globalNamed "internal/strconv.uint64pow10" = some 2 := by kernel_rfl
theorem gTabType : (Tryz.prog.globals[2]?).map (·.type) = some 202 := by kernel_rfl
theorem cellsTab : Tryz.prog.cellsOf 202 = 20 := by kernel_rfl
theorem cellsU64 : Tryz.prog.cellsOf 122 = 1 := by kernel_rfl
theorem uTab64 : Tryz.prog.globalNamed "math/bits.deBruijn64tab" = some 0 := by kernel_rfl
theorem uTab64Type : (Tryz.prog.globals[0]?).map (·.type) = some 157 := by kernel_rfl
theorem uCellsTab64 : Tryz.prog.cellsOf 157 = 64 := by kernel_rfl
theorem uCellsU8 : Tryz.prog.cellsOf 5 = 1 := by kernel_rfl
theorem tab_of {W : World} (h : laidMetH Tryz.prog tabs W) : Tab2 W := by
  rw [MakeChecks.laidMetH_plain _ _ _ (by kernel_rfl)] at h
  exact ⟨Lib.tabIs_of_head (rest := [("strconv.ErrRange", Rows.laid_strconv_ErrRange), ("strconv.ErrSyntax", Rows.laid_strconv_ErrSyntax)]) gTab gTabType Tryz.underlying202 Tryz.underlying122 cellsU64 cellsTab (laidMet.tail (laidMet.tail h)),
    Lib.tabIs_of_head (rest := [("internal/strconv.uint64pow10", Rows.laid_internal_strconv_uint64pow10), ("strconv.ErrRange", Rows.laid_strconv_ErrRange), ("strconv.ErrSyntax", Rows.laid_strconv_ErrSyntax)]) uTab64 uTab64Type Tryz.underlying157 Tryz.underlying5 uCellsU8 uCellsTab64 (laidMet.tail h)⟩
end Go.Proofs.YtdkcdgjpcojdfaaGreatDoor
