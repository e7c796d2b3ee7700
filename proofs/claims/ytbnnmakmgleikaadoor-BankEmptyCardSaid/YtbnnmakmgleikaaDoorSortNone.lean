/-
  slices.SortFunc of no payments does nothing.
-/
import Derived.Test.YtbnnmakmgleikaaDoorBkFile
import Derived.Test.YtbnnmakmgleikaaDoorShelf
import Derived.Deep.DeepCutAuto
set_option linter.unusedVariables false
namespace Go.Proofs.YtbnnmakmgleikaaDoor
open Go.RowKit

/-- Nothing is told, and nothing is made. -/
def NilW (w : World) (e : Ending) (w' : World) : Prop := e = .returned (.tuple #[]) ∧ w' = w
set_option maxHeartbeats 1600000 in
theorem insert_none (w : World) (F : Value) : Calls Tryd.prog 57 #[.slice none 0 0, .int .i64 0, .int .i64 0, F] w (NilW w) := by
  obtain ⟨Q, hQ⟩ : ∃ Q, NilW w = Q := ⟨_, rfl⟩
  rw [hQ]
  have FIN : Hid (Q (.returned (.tuple #[])) w) := Lib.hid (by rw [← hQ]; exact ⟨rfl, rfl⟩)
  clear hQ
  go_enter Tryd.func57, Tryd.ntmps57
  go_wp2_with fail
  go_loopw [8] (fun i wr => i = .int .i64 1 ∧ wr = w) (fun _ _ => 0)
  case atStart => exact ⟨rfl, rfl⟩
  case round =>
    obtain ⟨rfl, rfl⟩ := hrel
    go_wp2_with fail
    go_end0
    exact FIN.out
set_option maxHeartbeats 1600000 in
theorem pdq_none (w : World) (F : Value) (z : Int) : Calls Tryd.prog 44 #[.slice none 0 0, .int .i64 0, .int .i64 0, .int .i64 z, F] w (NilW w) := by
  obtain ⟨Q, hQ⟩ : ∃ Q, NilW w = Q := ⟨_, rfl⟩
  rw [hQ]
  have FIN : Hid (Q (.returned (.tuple #[])) w) := Lib.hid (by rw [← hQ]; exact ⟨rfl, rfl⟩)
  have CI := Lib.hid (insert_none w F)
  clear hQ
  go_enter Tryd.func44, Tryd.ntmps44
  go_wp2_with fail
  go_loopw [1, 2] (fun a b wr => a = .int .i64 0 ∧ b = .int .i64 0 ∧ wr = w) (fun _ _ _ => 0)
  case atStart => exact ⟨rfl, rfl, rfl⟩
  case round =>
    obtain ⟨rfl, rfl, rfl⟩ := hrel
    go_wp2_with (go_at_call 57; refine CI.out.mono ?_)
    rintro e1 w1 ⟨rfl, rfl⟩
    go_wp2_with fail
    go_end0
    exact FIN.out
set_option maxHeartbeats 1600000 in
theorem len_none (w : World) : Calls Tryd.prog 45 #[.int .u64 0] w (fun e w' => e = .returned (.int .i64 0) ∧ w' = w) := by
  obtain ⟨Q, hQ⟩ : ∃ Q, (fun (e : Ending) (w' : World) => e = .returned (.int .i64 0) ∧ w' = w) = Q := ⟨_, rfl⟩
  rw [hQ]
  have FIN : Hid (Q (.returned (.int .i64 0)) w) := Lib.hid (by rw [← hQ]; exact ⟨rfl, rfl⟩)
  have CI := Lib.hid (Tryd.bits_Len64 0 w (by decide) (by decide))
  clear hQ
  go_enter Tryd.func45, Tryd.ntmps45
  go_wp2_with (go_at_call 66; refine CI.out.mono ?_)
  rintro e1 w1 ⟨rfl, rfl⟩
  have e0 : Lib.bitLen (0 : Int).toNat = 0 := by decide
  rw [e0]
  go_wp2_with fail
  exact FIN.out
set_option maxHeartbeats 1600000 in
theorem sort_none (w : World) (F : Value) : Calls Tryd.prog 31 #[.slice none 0 0, F] w (NilW w) := by
  obtain ⟨Q, hQ⟩ : ∃ Q, NilW w = Q := ⟨_, rfl⟩
  rw [hQ]
  have FIN : Hid (Q (.returned (.tuple #[])) w) := Lib.hid (by rw [← hQ]; exact ⟨rfl, rfl⟩)
  have CL := Lib.hid (len_none w)
  have CP := Lib.hid (pdq_none w F 0)
  clear hQ
  go_enter Tryd.func31, Tryd.ntmps31
  go_wp2_with (go_at_call 45; refine CL.out.mono ?_)
  rintro e1 w1 ⟨rfl, rfl⟩
  go_wp2_with (go_at_call 44; refine CP.out.mono ?_)
  rintro e1 w1 ⟨rfl, rfl⟩
  go_wp2_with fail
  go_end0
  exact FIN.out
end Go.Proofs.YtbnnmakmgleikaaDoor
