/-
  The reference's words are words.
-/
import Derived.Test.YtfihdbnecepmfaaGreatDoorTK

namespace Go.Proofs.YtfihdbnecepmfaaGreatDoor
open Go.RowKit

theorem ref_tokTy : TokTy 88 80 where
  info := ⟨.agg #[.int .i64 0, .string ⟨#[]⟩, .int .i64 0], by kernel_rfl, by rfl⟩
  under := by kernel_rfl
end Go.Proofs.YtfihdbnecepmfaaGreatDoor
