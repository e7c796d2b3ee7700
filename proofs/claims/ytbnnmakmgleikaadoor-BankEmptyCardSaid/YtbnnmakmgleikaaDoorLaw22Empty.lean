/-
  BankEmpty: a period in which nobody is paid has a file of two lines, just if it is one.
-/
import Derived.Test.YtbnnmakmgleikaaDoorLaw22Kit
import Derived.Test.YtbnnmakmgleikaaDoorLaw22Writes
import Derived.Test.YtbnnmakmgleikaaDoorBkOfNone
set_option linter.unusedVariables false
namespace Go.Proofs.YtbnnmakmgleikaaDoor
open Go.RowKit
open PBank (Pay)

/-- Of, where there is a file; where there is none. -/
def OfY (per : Int) (w : World) (e : Ending) (w' : World) : Prop := e = .returned (.tuple #[.agg #[.int .i64 per, .slice none 0 0], .int .i64 0]) ∧ Below w.heap.size w w'
def OfN (w : World) (e : Ending) (w' : World) : Prop := e = .returned (.tuple #[.agg #[.int .i64 0, .slice none 0 0], .int .i64 1]) ∧ Below w.heap.size w w'
theorem of_y {per : Int} (w : World) (h : PBank.Rt per []) : Calls Tryd.prog 17 #[.agg #[.slice none 0 0], .agg #[.slice none 0 0], .int .i64 per] w (OfY per w) := by
  refine (kof_none w per).mono ?_
  rintro e w' (⟨_, h1, h2⟩ | ⟨h1, _⟩)
  · exact ⟨h1, h2⟩
  · exact absurd h h1
theorem of_n {per : Int} (w : World) (h : ¬ PBank.Rt per []) : Calls Tryd.prog 17 #[.agg #[.slice none 0 0], .agg #[.slice none 0 0], .int .i64 per] w (OfN w) := by
  refine (kof_none w per).mono ?_
  rintro e w' (⟨h1, _⟩ | ⟨_, h1, h2⟩)
  · exact absurd h1 h
  · exact ⟨h1, h2⟩
set_option maxRecDepth 100000 in
set_option maxHeartbeats 12800000 in
theorem bempty_walk (per : Int) (w : World) (ht : TabE w) : Calls Tryd.prog 8 #[.int .i64 per] w (FlagB true w) := by
  obtain ⟨Q, hQ⟩ : ∃ Q, FlagB true w = Q := ⟨_, rfl⟩
  rw [hQ]
  have FIN : Hid (∀ (w' : World), Below w.heap.size w w' → Q (.returned (.bool true)) w') := Lib.hid (fun w' a => by rw [← hQ]; exact ⟨rfl, a⟩)
  have HT := Lib.hid ht
  clear hQ ht
  by_cases hR : PBank.Rt per []
  · have CO := Lib.hid (of_y w hR)
    have g1 : ¬ per < 22800 := by have := hR.lo; omega
    have g2 : ¬ 35999 < per := by have := hR.hi; omega
    have CW : Hid (∀ wz, TabE wz → Calls Tryd.prog 10 #[.agg #[.int .i64 per, .slice none 0 0]] wz (WrB (PBank.txt per []) 0 wz)) := Lib.hid (fun wz h => kbwrite_yes (slr_nil payR wz none) (by decide) h.1 hR)
    obtain ⟨s, hs⟩ : ∃ s : ByteArray, (⟨(PBank.txt per []).toArray⟩ : ByteArray) = s := ⟨_, rfl⟩
    have hsl : s.data.toList = PBank.txt per [] := by rw [← hs]
    have hss : s.size = 33 := by
      have h1 := PBank.txt_len hR
      rw [← hsl] at h1
      simpa using h1
    have CW2 : Hid (∀ wz, TabE wz → Calls Tryd.prog 10 #[.agg #[.int .i64 per, .slice none 0 0]] wz (WrS s wz)) := Lib.hid (by rw [← hs]; exact CW.out)
    have HR := Lib.hid hR; have HSL := Lib.hid hsl
    clear hR hs hsl CW
    go_enter Tryd.func8, Tryd.ntmps8
    go_wp2_with (go_at_call 17; refine CO.out.mono ?_)
    intro e1 w1 h1
    obtain ⟨rfl, b1⟩ := h1
    obtain ⟨w2, w3, hw2, hw3, X2, X3, b13⟩ := file_box w1 24 per none 0 0
    obtain ⟨x0, x1⟩ := c2 X2
    obtain ⟨xf0, xf1⟩ := f2 X2
    have hsx := X2.1
    have b3' := below_step b1 b13
    have B3 := Lib.hid b3'
    have HX3 := Lib.hid X3
    have HT3 := Lib.hid (HT.out.on b3')
    have HW3 := Lib.hid hw3
    have CW3 := Lib.hid (CW2.out w3 (HT.out.on b3'))
    clear b1 X2 X3 b13 b3' hw3 CO CW2
    go_upto_region 2 with fail
    rw [HW3.out]
    clear HW3 hw2 x0 x1 xf0 xf1 hsx
    go_wp2_with (go_at_call 10; refine CW3.out.mono ?_)
    intro e4 w4 h4
    obtain ⟨rfl, b4⟩ := h4
    have CR := Lib.hid (read_yes HR.out HSL.out (n := 0) rfl w4 (HT3.out.on b4).2 (HT3.out.on b4).1)
    have B4 := Lib.hid b4
    clear b4 CW3
    go_wp2_with (go_at_call 14; refine CR.out.mono ?_)
    intro e5 w5 h5
    obtain ⟨A, c, rfl, S5, b5⟩ := h5
    obtain ⟨w6, w7, hw6, hw7, X6, X7, b57⟩ := file_box w5 24 per A 0 c
    obtain ⟨x0, x1⟩ := c2 X6
    obtain ⟨xf0, xf1⟩ := f2 X6
    have hsx := X6.1
    obtain ⟨y0, y1⟩ := c2 X7
    have hsy := X7.1
    have b37 := below_step B4.out (below_step b5 b57)
    obtain ⟨z0, z1⟩ := c2 (HX3.out.on b37)
    have hsz := (HX3.out.on b37).1
    have AW := Lib.hid (aw22_any w7 (HT3.out.on b37).1 (HT3.out.on b37).2)
    have B7 := Lib.hid (below_step B3.out b37)
    have HW7 := Lib.hid hw7
    clear S5 b5 X6 X7 b57 b37 hw7 CR
    go_upto_region 6 with fail
    rw [HW7.out]
    clear HW7 hw6 x0 x1 xf0 xf1 hsx
    go_wp2_with (go_at_call 9; refine AW.out.mono ?_)
    intro e8 w8 h8
    obtain ⟨rfl, b8⟩ := h8
    have B8 := Lib.hid (below_step B7.out b8)
    clear b8 AW
    go_wp2_with fail
    exact FIN.out _ B8.out
  · have CO := Lib.hid (of_n w hR)
    have hc : per < 22800 ∨ (¬ per < 22800 ∧ 35999 < per) := by
      have : ¬ (22800 ≤ per ∧ per ≤ 35999) := fun h => hR ⟨h.1, h.2, by simp, fun i hi => by simp at hi⟩
      omega
    have CW : Hid (∀ wz, Calls Tryd.prog 10 #[.agg #[.int .i64 per, .slice none 0 0]] wz (WrB [] 1 wz)) := Lib.hid (fun wz => kbwrite_no (slr_nil payR wz none) (by decide) hR)
    clear hR
    rcases hc with g1 | ⟨g1, g2⟩
    all_goals
      go_enter Tryd.func8, Tryd.ntmps8
      go_wp2_with (go_at_call 17; refine CO.out.mono ?_)
      intro e1 w1 h1
      obtain ⟨rfl, b1⟩ := h1
      obtain ⟨w2, w3, hw2, hw3, X2, X3, b13⟩ := file_box w1 24 0 none 0 0
      obtain ⟨x0, x1⟩ := c2 X2
      obtain ⟨xf0, xf1⟩ := f2 X2
      have hsx := X2.1
      have b3' := below_step b1 b13
      have B3 := Lib.hid b3'
      have HT3 := Lib.hid (HT.out.on b3')
      have HW3 := Lib.hid hw3
      have CW3 := Lib.hid (CW.out w3)
      clear b1 X2 X3 b13 b3' hw3 CO CW
      go_upto_region 2 with fail
      rw [HW3.out]
      clear HW3 hw2 x0 x1 xf0 xf1 hsx
      go_wp2_with (go_at_call 10; refine CW3.out.mono ?_)
      intro e4 w4 h4
      obtain ⟨rfl, b4⟩ := h4
      have AW := Lib.hid (aw22_any w4 (HT3.out.on b4).1 (HT3.out.on b4).2)
      have B4 := Lib.hid (below_step B3.out b4)
      clear b4 CW3
      go_wp2_with (go_at_call 9; refine AW.out.mono ?_)
      intro e8 w8 h8
      obtain ⟨rfl, b8⟩ := h8
      have B8 := Lib.hid (below_step B4.out b8)
      clear b8 AW
      go_wp2_with fail
      exact FIN.out _ B8.out
end Go.Proofs.YtbnnmakmgleikaaDoor
