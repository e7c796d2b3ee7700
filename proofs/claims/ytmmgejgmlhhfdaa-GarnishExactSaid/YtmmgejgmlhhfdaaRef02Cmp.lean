/-
  What the reference's Compare answers.
-/
import Derived.Test.YtmmgejgmlhhfdaaRef02Dbl
namespace Go.Proofs.Ytmmgejgmlhhfdaa
open Go.RowKit

/-- Which of two signed numbers is less. -/
def cmpS (ma mb : Bool) (x y : Nat) : Int := if ma = mb then (if ma = true then PDigs.cmp y x else PDigs.cmp x y) else (if ma = true then -1 else 1)

set_option maxHeartbeats 1600000 in
theorem compare_any (ma mb : Bool) (A B : Option Addr) (la ca lb cb x y : Nat) (w : World) (hA : Sl w A la (PDigs.digs x)) (hB : Sl w B lb (PDigs.digs y)) :
    Calls Try.prog 48 #[.agg #[.bool ma, .slice A la ca], .agg #[.bool mb, .slice B lb cb]] w fun e w' => e = .returned (.int .i64 (cmpS ma mb x y)) ∧ Below w.heap.size w w' := by
  have HA := Lib.hid hA; have HB := Lib.hid hB; clear hA hB
  have hbx : ∀ o1 o2 : Obj, Below w.heap.size w ((w.alloc o1).alloc o2) := fun o1 o2 => ((Below.refl _ _).alloc (Nat.le_refl _) _).alloc (by simp) _
  have HX := Lib.hid hbx; clear hbx
  by_cases hne : ma = mb
  · subst hne
    cases ma
    · have HF : Hid (cmpS false false x y = PDigs.cmp x y) := Lib.hid rfl
      go_enter Try.func48, Try.ntmps48
      go_wp2_with fail
      refine (size_any A B la lb ca cb _ x y (HA.out.on (HX.out _ _)) (HB.out.on (HX.out _ _))).mono ?_
      rintro _ w1 ⟨rfl, hb⟩
      go_wp2
      go_ret
      exact ⟨by rw [HF.out]; rfl, below_step (HX.out _ _) hb⟩
    · have HF : Hid (cmpS true true x y = PDigs.cmp y x) := Lib.hid rfl
      go_enter Try.func48, Try.ntmps48
      go_wp2_with fail
      refine (size_any B A lb la cb ca _ y x (HB.out.on (HX.out _ _)) (HA.out.on (HX.out _ _))).mono ?_
      rintro _ w1 ⟨rfl, hb⟩
      go_wp2
      go_ret
      exact ⟨by rw [HF.out]; rfl, below_step (HX.out _ _) hb⟩
  · cases ma
    · obtain rfl : mb = true := by cases mb <;> simp_all
      have HF : Hid (cmpS false true x y = 1) := Lib.hid rfl
      clear hne
      go_enter Try.func48, Try.ntmps48
      go_wp2_with fail
      go_ret
      exact ⟨by rw [HF.out]; rfl, HX.out _ _⟩
    · obtain rfl : mb = false := by cases mb <;> simp_all
      have HF : Hid (cmpS true false x y = -1) := Lib.hid rfl
      clear hne
      go_enter Try.func48, Try.ntmps48
      go_wp2_with fail
      go_ret
      exact ⟨by rw [HF.out]; rfl, HX.out _ _⟩
end Go.Proofs.Ytmmgejgmlhhfdaa
