/-
  What the reference's double and Compare answer.
-/
import Derived.Test.YtnnhlhdijfhepaaRef02Mul
namespace Go.Proofs.Ytnnhlhdijfhepaa
open Go.RowKit

theorem field_one (b : Bool) (C : Option Addr) (m c : Nat) (W : World) : (Instr.field 32 (.agg #[.bool b, .slice C m c]) 1).run Try.prog W = .ok (.slice C m c) W := by
  kernel_rfl

set_option maxHeartbeats 800000 in
theorem double_any (A : Option Addr) (la ca x : Nat) (w : World) (hA : Sl w A la (PDigs.digs x)) (h1 : la ≤ 100) :
    Calls Try.prog 26 #[.slice A la ca] w (NumR (x * 2) w) := by
  have HA := Lib.hid hA; clear hA
  go_enter Try.func26, Try.ntmps26
  go_wp2_with fail
  refine (of_any 2 _ (by omega) (by omega)).mono ?_
  rintro _ w1 ⟨B, n, cap, rfl, hn, hb⟩
  have hd2 : (PDigs.digs 2).length = 1 := by rw [PDigs.digs_pos (by decide)]; rw [PDigs.digs_zero]; rfl
  have hn1 : n ≤ 100 := by have := hn.len; have e : (2 : Int).natAbs = 2 := rfl; rw [e, hd2] at this; omega
  have HN := Lib.hid hn; clear hn hd2
  go_wp2_with fail
  refine (mul_any _ _ A B la ca n cap x 2 _ (HA.out.on hb) HN.out.sl h1 hn1).mono ?_
  rintro _ w2 ⟨C, m, cap', rfl, hm, hb2⟩
  have HM := Lib.hid hm; clear hm
  have hf := field_one false C m cap' w2
  go_wp2
  go_ret
  exact ⟨C, m, cap', rfl, HM.out, below_step hb hb2⟩

/-- Which of two signed numbers is less. -/
def cmpS (ma mb : Bool) (x y : Nat) : Int := if ma = mb then (if ma = true then PDigs.cmp y x else PDigs.cmp x y) else (if ma = true then -1 else 1)

set_option maxHeartbeats 1600000 in
theorem compare_any (ma mb : Bool) (A B : Option Addr) (la ca lb cb x y : Nat) (w : World) (hA : Sl w A la (PDigs.digs x)) (hB : Sl w B lb (PDigs.digs y)) :
    Calls Try.prog 18 #[.agg #[.bool ma, .slice A la ca], .agg #[.bool mb, .slice B lb cb]] w fun e w' => e = .returned (.int .i64 (cmpS ma mb x y)) ∧ Below w.heap.size w w' := by
  have HA := Lib.hid hA; have HB := Lib.hid hB; clear hA hB
  have hbx : ∀ o1 o2 : Obj, Below w.heap.size w ((w.alloc o1).alloc o2) := fun o1 o2 => ((Below.refl _ _).alloc (Nat.le_refl _) _).alloc (by simp) _
  have HX := Lib.hid hbx; clear hbx
  by_cases hne : ma = mb
  · subst hne
    cases ma
    · have HF : Hid (cmpS false false x y = PDigs.cmp x y) := Lib.hid rfl
      go_enter Try.func18, Try.ntmps18
      go_wp2_with fail
      refine (size_any A B la lb ca cb _ x y (HA.out.on (HX.out _ _)) (HB.out.on (HX.out _ _))).mono ?_
      rintro _ w1 ⟨rfl, hb⟩
      go_wp2
      go_ret
      exact ⟨by rw [HF.out]; rfl, below_step (HX.out _ _) hb⟩
    · have HF : Hid (cmpS true true x y = PDigs.cmp y x) := Lib.hid rfl
      go_enter Try.func18, Try.ntmps18
      go_wp2_with fail
      refine (size_any B A lb la cb ca _ y x (HB.out.on (HX.out _ _)) (HA.out.on (HX.out _ _))).mono ?_
      rintro _ w1 ⟨rfl, hb⟩
      go_wp2
      go_ret
      exact ⟨by rw [HF.out]; rfl, below_step (HX.out _ _) hb⟩
  · cases ma
    · obtain rfl : mb = true := by cases mb <;> simp_all
      have HF : Hid (cmpS false true x y = 1) := Lib.hid rfl
      clear hne
      go_enter Try.func18, Try.ntmps18
      go_wp2_with fail
      go_ret
      exact ⟨by rw [HF.out]; rfl, HX.out _ _⟩
    · obtain rfl : mb = false := by cases mb <;> simp_all
      have HF : Hid (cmpS true false x y = -1) := Lib.hid rfl
      clear hne
      go_enter Try.func18, Try.ntmps18
      go_wp2_with fail
      go_ret
      exact ⟨by rw [HF.out]; rfl, HX.out _ _⟩
end Go.Proofs.Ytnnhlhdijfhepaa
