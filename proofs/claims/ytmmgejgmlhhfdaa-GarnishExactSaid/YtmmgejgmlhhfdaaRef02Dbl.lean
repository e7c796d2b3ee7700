/-
  What the reference's double and Compare answer.
-/
import Derived.Test.YtmmgejgmlhhfdaaRef02Mul
namespace Go.Proofs.Ytmmgejgmlhhfdaa
open Go.RowKit

theorem field_one (b : Bool) (C : Option Addr) (m c : Nat) (W : World) : (Instr.field 67 (.agg #[.bool b, .slice C m c]) 1).run Try.prog W = .ok (.slice C m c) W := by
  kernel_rfl

set_option maxHeartbeats 800000 in
theorem double_any (A : Option Addr) (la ca x : Nat) (w : World) (hA : Sl w A la (PDigs.digs x)) (h1 : la ≤ 100) :
    Calls Try.prog 47 #[.slice A la ca] w (NumR (x * 2) w) := by
  have HA := Lib.hid hA; clear hA
  go_enter Try.func47, Try.ntmps47
  go_wp2_with fail
  refine (of_any 2 _ (by omega) (by omega)).mono ?_
  rintro _ w1 ⟨B, n, cap, rfl, hn, hb⟩
  have hd2 : (PDigs.digs 2).length = 1 := by rw [PDigs.digs_pos (by decide)]; rw [PDigs.digs_zero]; rfl
  have hn1 : n ≤ 100 := by have := hn.len; have e : (2 : Int).natAbs = 2 := rfl; rw [e, hd2] at this; omega
  have HN := Lib.hid hn; clear hn hd2
  go_wp2_with fail
  refine (mul_any _ _ A B la ca n cap x 2 _ (HA.out.on hb) HN.out.sl h1 hn1).mono ?_
  rintro _ w2 ⟨C, m, cap', rfl, hm, hb2⟩
  have HM := Lib.hid hm; clear hm
  have hf := field_one false C m cap' w2
  go_wp2
  go_ret
  exact ⟨C, m, cap', rfl, HM.out, below_step hb hb2⟩
end Go.Proofs.Ytmmgejgmlhhfdaa
