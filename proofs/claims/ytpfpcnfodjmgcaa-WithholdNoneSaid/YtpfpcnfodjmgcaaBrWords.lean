/-
  What the calls of package brackets are said to answer, in words; tables that a call lays.
-/
import Derived.Test.YtpfpcnfodjmgcaaBrMath2
import Derived.Test.YtpfpcnfodjmgcaaPairKit
import Derived.Test.YtpfpcnfodjmgcaaRowKit
namespace PBr
/-- Which error: bb, is the table right? -/
def errB (bb : Bool) (x : Int) : Int := if bb = true then (if x = -9223372036854775808 then 3 else 0) else 1
theorem errB_ok {x : Int} (h : -9223372036854775807 ≤ x) : errB true x = 0 := by unfold errB; rw [if_pos rfl, if_neg (by omega)]
theorem errB_min : errB true (-9223372036854775808) = 3 := rfl
theorem errB_no (x : Int) : errB false x = 1 := rfl
/-- The parts. -/
def ptL (a : Nat → Int) (n : Nat) (x : Int) : List Int := (List.range n).map (fun i => pt a n i x)
theorem ptL_len (a : Nat → Int) (n : Nat) (x : Int) : (ptL a n x).length = n := by simp [ptL]
theorem ptL_get {a : Nat → Int} {n i : Nat} {x : Int} (h : i < n) : (ptL a n x).getD i 0 = pt a n i x := by simp [ptL, List.getD, h]
end PBr
namespace Go.Proofs.Ytpfpcnfodjmgcaa
open Go.RowKit

theorem slp_one (w : World) (t : TypeId) (u v : Int) (h0 : -9223372036854775808 ≤ u ∧ u ≤ 9223372036854775807) (h1 : -9223372036854775808 ≤ v ∧ v ≤ 9223372036854775807) : SlP (w.alloc (.cells #[.int .i64 u, .int .i64 v] t)) (some ⟨w.heap.size, 0, none⟩) 1 (fun _ => u) (fun _ => v) :=
  ⟨fun _ _ => ⟨h0, h1⟩, by omega, .inr ⟨w.heap.size, 0, rfl, fun i hi => by
    obtain rfl : i = 0 := by omega
    refine ⟨?_, ?_⟩ <;> go_simp⟩⟩
theorem slp_two (w : World) (t : TypeId) (u v x y : Int) (h0 : -9223372036854775808 ≤ u ∧ u ≤ 9223372036854775807) (h1 : -9223372036854775808 ≤ v ∧ v ≤ 9223372036854775807) (h2 : -9223372036854775808 ≤ x ∧ x ≤ 9223372036854775807) (h3 : -9223372036854775808 ≤ y ∧ y ≤ 9223372036854775807) :
    SlP (w.alloc (.cells #[.int .i64 u, .int .i64 v, .int .i64 x, .int .i64 y] t)) (some ⟨w.heap.size, 0, none⟩) 2 (fun i => if i = 0 then u else x) (fun i => if i = 0 then v else y) :=
  ⟨fun i hi => by
    by_cases e : i = 0
    · subst e; exact ⟨h0, h1⟩
    · simp only [if_neg e]; exact ⟨h2, h3⟩, by omega, .inr ⟨w.heap.size, 0, rfl, fun i hi => by
    by_cases e : i = 0
    · subst e; refine ⟨?_, ?_⟩ <;> go_simp
    · obtain rfl : i = 1 := by omega
      refine ⟨?_, ?_⟩ <;> go_simp⟩⟩
end Go.Proofs.Ytpfpcnfodjmgcaa
