/-
  What the reference of layer 7 answers: the kind of a run of digits.
-/
import Derived.Test.YtnolbjaeilgjhaaDoorRef07Whole
import Derived.Test.YtnolbjaeilgjhaaDoorRef01Parse
import Derived.Test.YtnolbjaeilgjhaaDoorRef03
namespace PLex
/-- The kind of a run that begins with a digit; 0: none. -/
def kindOf (l : List UInt8) : Nat := if (PMoney.parse l).isSome = true then 3 else if (PRate.parse l).isSome = true then 4 else if whole l = true then 2 else 0
end PLex
namespace Go.Proofs.YtnolbjaeilgjhaaDoor
open Go.RowKit

set_option maxHeartbeats 800000 in
theorem refkind_any (s : ByteArray) (w : World) (hs : s.size ≤ 9223372036854775807) :
    Calls Tryd.prog 37 #[.string s] w fun e w' => e = .returned (.int .i64 (PLex.kindOf s.data.toList : Nat)) ∧ Below w.heap.size w w' := by
  have H1 := Lib.hid (fun w => refparse_any s w hs)
  have H2 := Lib.hid (fun w => refparse3 s w hs)
  have H3 := Lib.hid (fun w => refwhole_any s w hs)
  obtain ⟨k, hk⟩ : ∃ k, PLex.kindOf s.data.toList = k := ⟨_, rfl⟩
  have HK := Lib.hid hk
  rw [hk]
  clear hk
  go_enter Tryd.func37, Tryd.ntmps37
  go_wp2_with fail
  refine (H1.out _).mono ?_
  rintro _ w1 ⟨x, b, rfl, hb, -, b1⟩
  have B1 := Lib.hid b1
  have HB := Lib.hid hb
  clear b1 hb
  go_wp2_with fail
  refine (H2.out _).mono ?_
  rintro _ w2 ⟨he, b2⟩
  have B2 := Lib.hid (below_step B1.out b2)
  clear b2
  obtain ⟨y, c, hc, he2⟩ : ∃ (y : Int) (c : Bool), c = (PRate.parse s.data.toList).isSome ∧ rparseV s.data.toList = .tuple #[.int .i64 y, .bool c] := by
    cases h : PRate.parse s.data.toList with
    | none => exact ⟨0, false, rfl, rparseV_none h⟩
    | some n => exact ⟨n, true, rfl, rparseV_some h⟩
  rw [he2] at he
  subst he
  have HC := Lib.hid hc
  clear hc he2
  cases b with
  | true =>
    have HF : Hid (k = 3) := Lib.hid (by rw [← HK.out]; unfold PLex.kindOf; rw [if_pos HB.out.symm])
    go_wp2_with fail
    go_ret
    exact ⟨by rw [HF.out]; rfl, B2.out⟩
  | false =>
    cases c with
    | true =>
      have HF : Hid (k = 4) := Lib.hid (by rw [← HK.out]; unfold PLex.kindOf; rw [if_neg (by rw [← HB.out]; exact Bool.false_ne_true), if_pos HC.out.symm])
      go_wp2_with fail
      go_ret
      exact ⟨by rw [HF.out]; rfl, B2.out⟩
    | false =>
      obtain ⟨q, hq⟩ : ∃ q, PLex.whole s.data.toList = q := ⟨_, rfl⟩
      have HQ := Lib.hid hq
      rw [hq] at H3
      clear hq
      go_wp2_with fail
      refine (H3.out _).mono ?_
      rintro _ _ ⟨rfl, rfl⟩
      cases q with
      | true =>
        have HF : Hid (k = 2) := Lib.hid (by rw [← HK.out]; unfold PLex.kindOf; rw [if_neg (by rw [← HB.out]; exact Bool.false_ne_true), if_neg (by rw [← HC.out]; exact Bool.false_ne_true), if_pos HQ.out])
        go_wp2_with fail
        go_ret
        exact ⟨by rw [HF.out]; rfl, B2.out⟩
      | false =>
        have HF : Hid (k = 0) := Lib.hid (by rw [← HK.out]; unfold PLex.kindOf; rw [if_neg (by rw [← HB.out]; exact Bool.false_ne_true), if_neg (by rw [← HC.out]; exact Bool.false_ne_true), if_neg (by rw [HQ.out]; exact Bool.false_ne_true)])
        go_wp2_with fail
        go_ret
        exact ⟨by rw [HF.out]; rfl, B2.out⟩
end Go.Proofs.YtnolbjaeilgjhaaDoor
