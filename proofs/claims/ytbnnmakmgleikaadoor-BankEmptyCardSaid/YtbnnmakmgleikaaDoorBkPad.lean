/-
  A number with noughts ahead: what the landed bank answers.
-/
import Derived.Test.YtbnnmakmgleikaaDoorBkMath
import Derived.Test.YtbnnmakmgleikaaDoorTabKit
import Derived.Test.YtbnnmakmgleikaaDoorBase
set_option linter.unusedVariables false
namespace Go.Proofs.YtbnnmakmgleikaaDoor
open Go.RowKit

/-- A text, and new blocks only. -/
def TxtB (l : List UInt8) (w : World) (e : Ending) (w' : World) : Prop := e = .returned (.string ⟨l.toArray⟩) ∧ Below w.heap.size w w'
theorem repeat_nought (c : Nat) : Lib.repeatL [48] c = List.replicate c 48 := by
  induction c with
  | zero => rfl
  | succ c ih => show [48] ++ Lib.repeatL [48] c = _; rw [ih, List.replicate_succ]; rfl
theorem kitoa_any (n : Nat) (w : World) (ht : Tab w) (hm : n ≤ 9223372036854775807) : Calls Tryd.prog 33 #[.int .i64 (n : Nat)] w (TxtB (Lib.decDigits n) w) := by
  refine (Tryd.strconv_Itoa (n : Int) (by omega) (by omega) w ht).mono ?_
  rintro e w' ⟨rfl, k, os, rfl⟩
  rw [itoa_nat _ (by omega), Int.toNat_natCast]
  exact ⟨rfl, Lib.below_grow _ _ (Nat.le_refl _) _ _⟩
theorem krepeat_any (c : Nat) (w : World) (hc : c ≤ 20) : Calls Tryd.prog 34 #[.string { data := #[48] }, .int .i64 (c : Nat)] w (TxtB (List.replicate c 48) w) := by
  refine (Tryd.strings_Repeat { data := #[48] } c w (by omega) (by show 1 * c ≤ _; omega)).mono ?_
  rintro e w' ⟨rfl, hb⟩
  refine ⟨?_, hb⟩
  rw [← repeat_nought c]
set_option maxHeartbeats 1600000 in
theorem kpadded_any {n d : Nat} (w : World) (ht : Tab w) (hd : 0 < d) (hd2 : d ≤ 20) (hn : n < 10 ^ d) (hm : n ≤ 9223372036854775807) :
    Calls Tryd.prog 19 #[.int .i64 (n : Nat), .int .i64 (d : Nat)] w (TxtB (PBank.pad d n) w) := by
  obtain ⟨Q, hQ⟩ : ∃ Q, TxtB (PBank.pad d n) w = Q := ⟨_, rfl⟩
  rw [hQ]
  have FIN : Hid (∀ w' : World, Below w.heap.size w w' → Q (.returned (.string ⟨(PBank.pad d n).toArray⟩)) w') := Lib.hid (fun w' a => by rw [← hQ]; exact ⟨rfl, a⟩)
  have hle := PBank.dec_len_le d n hd hn
  obtain ⟨k, hk⟩ : ∃ k, (Lib.decDigits n).length = k := ⟨_, rfl⟩
  obtain ⟨c, hc⟩ : ∃ c : Nat, c = d - k := ⟨_, rfl⟩
  have HI := Lib.hid (kitoa_any n w ht hm)
  have HR := Lib.hid (fun w => krepeat_any c w (by omega))
  obtain ⟨t, htt⟩ : ∃ t, Lib.decDigits n = t := ⟨_, rfl⟩
  have HP : Hid (List.replicate c 48 ++ t = PBank.pad d n) := Lib.hid (by unfold PBank.pad; rw [hk, hc, htt])
  have hkt : t.length = k := by rw [← htt]; exact hk
  have hci : (d : Int) - (k : Int) = (c : Int) := by omega
  have hck : c + k ≤ 20 := by omega
  rw [htt] at HI
  obtain ⟨r, hr⟩ : ∃ r, List.replicate c (48 : UInt8) = r := ⟨_, rfl⟩
  have hrl : r.length = c := by rw [← hr, List.length_replicate]
  rw [hr] at HP HR
  clear hQ ht hn hk hc htt hle hr
  go_enter Tryd.func19, Tryd.ntmps19
  go_wp2_with (go_at_call 33; refine HI.out.mono ?_)
  intro e1 w1 h1
  obtain ⟨rfl, b1⟩ := h1
  have B1 := Lib.hid b1
  have HR := Lib.hid (HR.out w1)
  clear b1 HI
  go_wp2_with (go_at_call 34; refine HR.out.mono ?_)
  intro e2 w2 h2
  obtain ⟨rfl, b2⟩ := h2
  have B2 := Lib.hid (below_step B1.out b2)
  have HS : Hid ((({ data := r.toArray } : ByteArray) ++ { data := t.toArray }) = ⟨(PBank.pad d n).toArray⟩) := Lib.hid ((ByteArray.mk_append_mk _ _).trans (by rw [HP.out]))
  clear b2 HR
  go_wp2_with fail
  rw [HS.out]
  exact FIN.out _ B2.out
end Go.Proofs.YtbnnmakmgleikaaDoor
