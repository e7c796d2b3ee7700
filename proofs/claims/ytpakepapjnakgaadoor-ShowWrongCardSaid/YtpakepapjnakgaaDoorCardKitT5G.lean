/-
  What every card of this seat uses, where the walks read the table of powers of ten, which is one of the five listed variables.
-/
import Derived.Test.YtpakepapjnakgaaDoorCardKit5
import Derived.Test.YtpakepapjnakgaaDoorMoneyTextG

namespace Go.Proofs.YtpakepapjnakgaaDoor
open Go.ChangeShapes Go.WideShapes Go.ChangeAt Go.RowKit

theorem gTab : Tryd.prog.globalNamed "internal/strconv.uint64pow10" = some 1 := by kernel_rfl
theorem gTabType : (Tryd.prog.globals[1]?).map (·.type) = some 131 := by kernel_rfl
theorem cellsTab : Tryd.prog.cellsOf 131 = 20 := by kernel_rfl
theorem cellsU64 : Tryd.prog.cellsOf 124 = 1 := by kernel_rfl
theorem tab_of {W : World} (h : laidMetH Tryd.prog tabs W) : Tab W := by
  rw [MakeChecks.laidMetH_plain _ _ _ (by kernel_rfl)] at h
  exact Lib.tabIs_of_head (rest := [("strconv.ErrRange", Rows.laid_strconv_ErrRange), ("strconv.ErrSyntax", Rows.laid_strconv_ErrSyntax)]) gTab gTabType Tryd.underlying131 Tryd.underlying124 cellsU64 cellsTab (laidMet.tail (laidMet.tail h))
end Go.Proofs.YtpakepapjnakgaaDoor
