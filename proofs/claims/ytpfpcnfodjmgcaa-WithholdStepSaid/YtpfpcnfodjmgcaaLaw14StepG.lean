/-
  WithholdStep: what comes of any year, with more, is what the document says, or refused.
-/
import Derived.Test.YtpfpcnfodjmgcaaLaw14StepWrongG
import Derived.Test.YtpfpcnfodjmgcaaLaw14StepFarG
import Derived.Test.YtpfpcnfodjmgcaaLaw14StepListsG
import Derived.Test.YtpfpcnfodjmgcaaLaw14StepYesG
import Derived.Deep.QuietTactic
import Derived.BigQuiet
namespace Go.Proofs.Ytpfpcnfodjmgcaa
open Go.RowKit

set_option maxHeartbeats 3200000 in
set_option maxRecDepth 100000 in
/-- What is too long is awake. -/
theorem lstep_out {A F P O : Option Addr} {n ca m cf np cp no co : Nat} {w : World} {yt yb yx t b : Int} (hx : ¬ ((n ≤ 40 ∧ m ≤ 40) ∧ np ≤ 60 ∧ no ≤ 60)) :
    Calls Try.prog 4 #[.agg #[.slice A n ca, .slice F m cf], .agg #[.int .i64 yt, .int .i64 yb, .int .i64 yx, .slice P np cp, .slice O no co], .int .i64 t, .int .i64 b] w fun e w' => e = .returned (.bool true) ∧ Below w.heap.size w w' := by
  by_cases h40 : n ≤ 40 ∧ m ≤ 40
  · have SM := Lib.hid (fun w => small_yes (A := A) (F := F) (ca := ca) (cf := cf) w h40)
    by_cases h1 : np ≤ 60
    · have h2 : ¬ no ≤ 60 := fun k => hx ⟨h40, h1, k⟩
      have i61 : ¬ (60 : Int) < (np : Int) := by omega
      have i62 : (60 : Int) < (no : Int) := by omega
      clear hx h40 h1 h2
      go_enter Try.func4, Try.ntmps4
      go_upto_region 1 with fail
      obtain ⟨w1, hw1, XS, XY, b1, hs1⟩ := enter2 w 25 30 [.slice A n ca, .slice F m cf] [.int .i64 yt, .int .i64 yb, .int .i64 yx, .slice P np cp, .slice O no co]
      rw [hw1]
      obtain ⟨L, hL⟩ : ∃ L, w.heap.size = L := ⟨_, rfl⟩
      rw [hL] at XS XY hs1 ⊢
      have XY1 := Lib.hid XY; have B1 := Lib.hid b1
      obtain ⟨c0, c1⟩ := box2 XS
      clear hw1 b1 XS XY hs1 hL
      go_wp2_with fail
      refine (SM.out _).mono ?_
      rintro _ w2 ⟨rfl, b2⟩
      have B2 := Lib.hid (below_step B1.out b2)
      obtain ⟨y0, y1, y2, y3, y4⟩ := box5 (XY1.out.on b2)
      clear b2 c0 c1
      go_wp2_with fail
      refine (awake_any _).mono ?_
      rintro _ w3 ⟨rfl, b3⟩
      have B3 := Lib.hid (below_step B2.out b3)
      clear b3
      go_wp2_with fail
      go_ret
      exact ⟨rfl, B3.out⟩
    · have i61 : (60 : Int) < (np : Int) := by omega
      clear hx h40 h1
      go_enter Try.func4, Try.ntmps4
      go_upto_region 1 with fail
      obtain ⟨w1, hw1, XS, XY, b1, hs1⟩ := enter2 w 25 30 [.slice A n ca, .slice F m cf] [.int .i64 yt, .int .i64 yb, .int .i64 yx, .slice P np cp, .slice O no co]
      rw [hw1]
      obtain ⟨L, hL⟩ : ∃ L, w.heap.size = L := ⟨_, rfl⟩
      rw [hL] at XS XY hs1 ⊢
      have XY1 := Lib.hid XY; have B1 := Lib.hid b1
      obtain ⟨c0, c1⟩ := box2 XS
      clear hw1 b1 XS XY hs1 hL
      go_wp2_with fail
      refine (SM.out _).mono ?_
      rintro _ w2 ⟨rfl, b2⟩
      have B2 := Lib.hid (below_step B1.out b2)
      obtain ⟨y0, y1, y2, y3, y4⟩ := box5 (XY1.out.on b2)
      clear b2 c0 c1
      go_wp2_with fail
      refine (awake_any _).mono ?_
      rintro _ w3 ⟨rfl, b3⟩
      have B3 := Lib.hid (below_step B2.out b3)
      clear b3
      go_wp2_with fail
      go_ret
      exact ⟨rfl, B3.out⟩
  · have SM := Lib.hid (fun w => small_no (A := A) (F := F) (ca := ca) (cf := cf) w h40)
    clear hx h40
    go_enter Try.func4, Try.ntmps4
    go_upto_region 1 with fail
    obtain ⟨w1, hw1, XS, XY, b1, hs1⟩ := enter2 w 25 30 [.slice A n ca, .slice F m cf] [.int .i64 yt, .int .i64 yb, .int .i64 yx, .slice P np cp, .slice O no co]
    rw [hw1]
    obtain ⟨L, hL⟩ : ∃ L, w.heap.size = L := ⟨_, rfl⟩
    rw [hL] at XS XY hs1 ⊢
    have B1 := Lib.hid b1
    obtain ⟨c0, c1⟩ := box2 XS
    clear hw1 b1 XS XY hs1 hL
    go_wp2_with fail
    refine (SM.out _).mono ?_
    rintro _ w2 ⟨rfl, b2⟩
    have B2 := Lib.hid (below_step B1.out b2)
    clear b2 c0 c1
    go_wp2_with fail
    refine (awake_any _).mono ?_
    rintro _ w3 ⟨rfl, b3⟩
    have B3 := Lib.hid (below_step B2.out b3)
    clear b3
    go_wp2_with fail
    go_ret
    exact ⟨rfl, B3.out⟩

theorem lstep_walk (A F : Option Addr) (n ca m cf : Nat) (a r : Nat → Int) (l : List PWh.Fund) (yt yb yx : Int) (P : Option Addr) (np cp : Nat) (O : Option Addr) (no co : Nat) (lyp lyo : List Int) (t b : Int) (w : World) (hA : SlP w A n a r) (hF : SlF w F m l)
    (_ : (Lit.int .i64 yt).wf = true) (_ : (Lit.int .i64 yb).wf = true) (hx : (Lit.int .i64 yx).wf = true) (hp : VSl w (.slice P np cp) lyp) (ho : VSl w (.slice O no co) lyo) (_ : (Lit.int .i64 t).wf = true) (_ : (Lit.int .i64 b).wf = true) :
    Calls Try.prog 4 #[.agg #[.slice A n ca, .slice F m cf], .agg #[.int .i64 yt, .int .i64 yb, .int .i64 yx, .slice P np cp, .slice O no co], .int .i64 t, .int .i64 b] w fun e w' => e = .returned (.bool true) ∧ Below w.heap.size w w' := by
  by_cases h : (n ≤ 40 ∧ m ≤ 40) ∧ np ≤ 60 ∧ no ≤ 60
  · by_cases hR : PWh.Rt a r n l
    · by_cases hn : Near6 yt yb t b
      · by_cases hf : Fit np no m
        · exact lstep_yes hA hF hp ho h.1 h.2 (i64_bounds hx) ⟨hR, hn, hf⟩
        · exact lstep_lists hA hF hp ho h.1 h.2 (i64_bounds hx) ⟨hR, hn, hf⟩
      · exact lstep_far hA hF hp ho h.1 h.2 (i64_bounds hx) ⟨hR, hn⟩
    · exact lstep_wrong hA hF hp ho h.1 h.2 (i64_bounds hx) hR
  · exact lstep_out h
end Go.Proofs.Ytpfpcnfodjmgcaa
