/-
  What the first digits of a text are read to: what the landed bank answers.
-/
import Derived.Test.YtbnnmakmgleikaaDoorBkRight
import Derived.Lib.AtoiErrMem
set_option linter.unusedVariables false
namespace Go.Proofs.YtbnnmakmgleikaaDoor
open Go.RowKit

/-- The library's variable of a text that is no number holds some error. -/
def ErrV (w : World) : Prop := ∃ ev, w.cell? ⟨2, 0, none⟩ = some ev ∧ (ev = .nilIface ∨ ∃ te pe, ev = .iface te pe)
theorem ErrV.on {w w' : World} (h : ErrV w) (hb : Below w.heap.size w w') : ErrV w' := by
  obtain ⟨ev, h1, h2⟩ := h
  exact ⟨ev, (hb.cell (World.block_lt_of_cell? w _ h1)).trans h1, h2⟩
/-- Atoi's answer: the number, or 0, with something beside it. -/
def AtoB (z : Int) (w : World) (e : Ending) (w' : World) : Prop := ∃ v, e = .returned (.tuple #[.int .i64 z, v]) ∧ Below w.heap.size w w'
theorem katoi_any (s : ByteArray) (w : World) (he : ErrV w) (hs : s.size ≤ 18) : Calls Tryd.prog 54 #[.string s] w (AtoB (PBank.num s.data.toList) w) := by
  unfold PBank.num
  cases h : Lib.atoi s.data.toList with
  | some n =>
    refine (Tryd.strconv_Atoi s n hs h w).mono ?_
    rintro e w' ⟨rfl, t, rfl⟩
    exact ⟨_, rfl, Lib.bytesWorld_below _ _ _⟩
  | none =>
    obtain ⟨ev, h1, h2⟩ := he
    refine (Tryd.strconv_Atoi_err s hs h ev w h1 h2).mono ?_
    rintro e w' ⟨N, rfl, -, -, hb⟩
    exact ⟨_, rfl, hb⟩
theorem take_list (s : ByteArray) (d : Nat) : (s.extract 0 d).data.toList = s.data.toList.take d := by simp
set_option maxHeartbeats 1600000 in
theorem knumber_any (s : ByteArray) (d : Nat) (w : World) (he : ErrV w) (hd : d ≤ 18) (hs : d ≤ s.size) :
    Calls Tryd.prog 38 #[.string s, .int .i64 (d : Nat)] w (IntB (PBank.num (s.data.toList.take d)) w) := by
  obtain ⟨Q, hQ⟩ : ∃ Q, IntB (PBank.num (s.data.toList.take d)) w = Q := ⟨_, rfl⟩
  rw [hQ]
  have FIN : Hid (∀ w' : World, Below w.heap.size w w' → Q (.returned (.int .i64 (PBank.num (s.data.toList.take d)))) w') := Lib.hid (fun w' a => by rw [← hQ]; exact ⟨rfl, a⟩)
  have hsz : (s.extract 0 d).size = d := by rw [ByteArray.size_extract]; omega
  have CA := Lib.hid (by have h := katoi_any (s.extract 0 d) w he (by omega); rw [take_list] at h; exact h)
  obtain ⟨z, hz⟩ : ∃ z, PBank.num (s.data.toList.take d) = z := ⟨_, rfl⟩
  rw [hz] at CA FIN
  clear hQ hz he hsz
  go_enter Tryd.func38, Tryd.ntmps38
  go_wp2_with (go_at_call 54; refine CA.out.mono ?_)
  intro e1 w1 h1
  obtain ⟨v, rfl, b1⟩ := h1
  have B1 := Lib.hid b1
  clear b1 CA
  go_wp2_with fail
  exact FIN.out _ B1.out
end Go.Proofs.YtbnnmakmgleikaaDoor
