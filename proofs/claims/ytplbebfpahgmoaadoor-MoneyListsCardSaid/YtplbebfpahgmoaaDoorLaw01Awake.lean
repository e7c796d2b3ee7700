/-
  The fixed answer of stage 1's statements: it is true.
-/
import Derived.Test.YtplbebfpahgmoaaDoorMoneyText
import Derived.Test.YtplbebfpahgmoaaDoorMoneyParse
namespace Go.Proofs.YtplbebfpahgmoaaDoor
open Go.RowKit

theorem text_m5 : PMoney.text (-5) = [45, 48, 46, 48, 53] := by
  unfold PMoney.text PMoney.textNat
  rw [if_pos (by decide), PMoney.dec_small _ (by decide)]; rfl
theorem parse_1234 : PMoney.parse [49, 50, 46, 51, 52] = some 1234 := by decide +kernel

theorem text_five (w : World) (ht : Tab w) : Calls Tryd.prog 18 #[.int .i64 (-5)] w fun e w' => e = .returned (.tuple #[.string ⟨#[45, 48, 46, 48, 53]⟩, .int .i64 0]) ∧ Below w.heap.size w w' := by
  have := text_yes (-5) w (by omega) (by omega) ht
  rw [text_m5] at this
  exact this
theorem parse_five (w : World) : Calls Tryd.prog 19 #[.string ⟨#[49, 50, 46, 51, 52]⟩] w fun e w' => e = .returned (.tuple #[.int .i64 1234, .bool true]) ∧ w = w' := by
  have := parse_any ⟨#[49, 50, 46, 51, 52]⟩ w (by decide)
  rw [parseV_some parse_1234] at this
  exact this
theorem add_most (w : World) : Calls Tryd.prog 11 #[.int .i64 9223372036854775807, .int .i64 1] w fun e w' => e = .returned (.tuple #[.int .i64 0, .int .i64 3]) ∧ w = w' :=
  add_no _ _ w (by omega) (by omega) (by omega) (by omega) (by unfold Adds; omega)

set_option maxHeartbeats 800000 in
theorem awake_yes (w : World) (ht : Tab w) :
    Calls Tryd.prog 10 #[] w fun e w' => e = .returned (.bool true) ∧ Below w.heap.size w w' := by
  go_enter Tryd.func10, Tryd.ntmps10
  go_wp2_with fail
  refine (text_five _ ht).mono ?_
  rintro e w1 ⟨rfl, hb⟩
  go_wp2_with fail
  refine (parse_five _).mono ?_
  rintro e w' ⟨rfl, rfl⟩
  go_wp2_with fail
  refine (add_most _).mono ?_
  rintro e w' ⟨rfl, rfl⟩
  go_wp2
  go_ret
  exact ⟨rfl, hb⟩
end Go.Proofs.YtplbebfpahgmoaaDoor
