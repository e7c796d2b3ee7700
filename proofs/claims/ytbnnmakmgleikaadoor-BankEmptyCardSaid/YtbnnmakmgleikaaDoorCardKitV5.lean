/-
  What every card of stage 22 uses, where the walks read the table of powers of ten and the error of a text that is no number, two of the five listed variables.
-/
import Derived.Test.YtbnnmakmgleikaaDoorCardKit5
import Derived.Test.YtbnnmakmgleikaaDoorLaw22Kit
import Derived.LaidLaws
namespace Go.Proofs.YtbnnmakmgleikaaDoor
open Go.ChangeShapes Go.WideShapes Go.ChangeAt Go.RowKit

theorem gTab : Tryd.prog.globalNamed "internal/strconv.uint64pow10" = some 0 := by kernel_rfl
theorem gTabType : (Tryd.prog.globals[0]?).map (·.type) = some 157 := by kernel_rfl
theorem cellsTab : Tryd.prog.cellsOf 157 = 20 := by kernel_rfl
theorem cellsU64 : Tryd.prog.cellsOf 87 = 1 := by kernel_rfl
theorem gErr : Tryd.prog.globalNamed "strconv.ErrSyntax" = some 2 := by kernel_rfl
theorem gErrType : (Tryd.prog.globals[2]?).map (·.type) = some 58 := by kernel_rfl
theorem cellsErr : Tryd.prog.cellsOf 168 = 1 := by kernel_rfl
theorem cellsStr : Tryd.prog.cellsOf 9 = 1 := by kernel_rfl
theorem starErr : "*" ++ "errors.errorString" = "*errors.errorString" := by decide
theorem rowErr (u : TypeId) (h : Tryd.prog.typeName? 3 u = some "*errors.errorString") : u = 166 :=
  typeName_ptr_named (nm := "errors.errorString") (by rw [starErr]; kernel_rfl) (by kernel_rfl) (by decide) u (by rw [starErr]; exact h)
theorem tab_of {W : World} (h : laidMetH Tryd.prog tabs W) : TabE W := by
  rw [MakeChecks.laidMetH_plain _ _ _ (by kernel_rfl)] at h
  refine ⟨Lib.tabIs_of_head (rest := [("strconv.ErrRange", Rows.laid_strconv_ErrRange), ("strconv.ErrSyntax", Rows.laid_strconv_ErrSyntax)]) gTab gTabType Tryd.underlying157 Tryd.underlying87 cellsU64 cellsTab (laidMet.tail (laidMet.tail h)), ?_⟩
  obtain ⟨a, s, hv, -⟩ := laid_sentinel (laidMet.tail (laidMet.tail (laidMet.tail (laidMet.tail h)))) gErr gErrType Tryd.underlying58 rowErr Tryd.underlying166 Tryd.underlying168 rfl rfl Tryd.underlying9 cellsErr cellsStr
  have hc := World.var?_cell gErr hv 0
  exact ⟨.iface 166 (.pointer (some a)), by simpa using hc, .inr ⟨_, _, rfl⟩⟩
end Go.Proofs.YtbnnmakmgleikaaDoor
