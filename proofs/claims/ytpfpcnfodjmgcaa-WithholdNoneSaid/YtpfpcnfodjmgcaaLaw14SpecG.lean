/-
  WithholdStep: what the call answers, as one statement of all cases.
-/
import Derived.Test.YtpfpcnfodjmgcaaGC
import Derived.Test.YtpfpcnfodjmgcaaGB
namespace Go.Proofs.Ytpfpcnfodjmgcaa
open Go.RowKit

/-- A number that the statement takes. -/
def W60 (x : Int) : Prop := -1152921504606846976 ≤ x ∧ x ≤ 1152921504606846976
def W60L (l : List Int) : Prop := ∀ i, i < l.length → W60 (l.getD i 0)
theorem W60.mid {x : Int} (h : W60 x) : PWh.Mid x := by unfold W60 at h; unfold PWh.Mid; omega
theorem W60L.mid {l : List Int} (h : W60L l) : PWh.MidL l := fun i hi => (h i hi).mid
/-- What a step answers: the year, what came, the error. -/
structure Stp where
  rt : Int
  rb : Int
  rx : Int
  rp : List Int
  ro : List Int
  ct : Int
  cb : Int
  cx : Int
  cp : List Int
  co : List Int
  e : Int
def stpZ (e : Int) : Stp := ⟨0, 0, 0, [], [], 0, 0, 0, [], [], e⟩
def stpY (a r : Nat → Int) (n : Nat) (l : List PWh.Fund) (yt yb yx t b : Int) (lyp lyo : List Int) : Stp :=
  ⟨yt + t, yb + b, (PBr.tax a r n (yt + t) : Nat), PWh.paid l (yb + b), PWh.owed l (yb + b), t, b, (PBr.tax a r n (yt + t) : Nat) - yx, PWh.less (PWh.paid l (yb + b)) lyp, PWh.less (PWh.owed l (yb + b)) lyo, 0⟩
/-- Do a year's lists fit? -/
def Fit (np no m : Nat) : Prop := (np = 0 ∨ np = m) ∧ (no = 0 ∨ no = m)
inductive StpC14 (a r : Nat → Int) (n m : Nat) (l : List PWh.Fund) (yt yb yx t b : Int) (np no : Nat) (lyp lyo : List Int) : Stp → Prop
  | wrong : ¬ PWh.Rt a r n l → StpC14 a r n m l yt yb yx t b np no lyp lyo (stpZ 1)
  | far : PWh.Rt a r n l → ¬ Near6 yt yb t b → StpC14 a r n m l yt yb yx t b np no lyp lyo (stpZ 3)
  | lists : PWh.Rt a r n l → Near6 yt yb t b → ¬ Fit np no m → StpC14 a r n m l yt yb yx t b np no lyp lyo (stpZ 1)
  | yes : PWh.Rt a r n l → Near6 yt yb t b → Fit np no m → StpC14 a r n m l yt yb yx t b np no lyp lyo (stpY a r n l yt yb yx t b lyp lyo)
theorem lstep_spec {A F P O : Option Addr} {n ca m cf np cp no co : Nat} {a r : Nat → Int} {l : List PWh.Fund} {w : World} {yt yb yx t b : Int} {lyp lyo : List Int} (hA : SlP w A n a r) (hF : SlF w F m l) (hp : VSl w (.slice P np cp) lyp) (ho : VSl w (.slice O no co) lyo)
    (h1 : W60 yx) (h2 : W60L lyp) (h3 : W60L lyo) :
    ∃ s : Stp, StpC14 a r n m l yt yb yx t b np no lyp lyo s ∧ ∀ w', Below w.heap.size w w' →
      Calls Try.prog 18 #[.agg #[.slice A n ca, .slice F m cf], .agg #[.int .i64 yt, .int .i64 yb, .int .i64 yx, .slice P np cp, .slice O no co], .int .i64 t, .int .i64 b] w' (StpR s.rt s.rb s.rx s.rp s.ro s.ct s.cb s.cx s.cp s.co s.e w') := by
  by_cases hR : PWh.Rt a r n l
  · by_cases hn : Near6 yt yb t b
    · by_cases hx : Fit np no m
      · exact ⟨_, .yes hR hn hx, fun w' h => wstep_yes (hA.on h) (hF.on h) hR hn hx (hp.on h) (ho.on h) h1.mid h2.mid h3.mid⟩
      · exact ⟨_, .lists hR hn hx, fun w' h => wstep_lists (hA.on h) (hF.on h) hR hn hx⟩
    · exact ⟨_, .far hR hn, fun w' h => wstep_far (hA.on h) (hF.on h) hR hn⟩
  · exact ⟨_, .wrong hR, fun w' h => wstep_wrong (hA.on h) (hF.on h) hR⟩
end Go.Proofs.Ytpfpcnfodjmgcaa
