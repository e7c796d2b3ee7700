/-
  BankReads: any text is the file whose text it is, or none.
-/
import Derived.Test.YtbnnmakmgleikaaDoorLaw22Kit
set_option linter.unusedVariables false
namespace Go.Proofs.YtbnnmakmgleikaaDoor
open Go.RowKit
open PBank (Pay)

set_option maxRecDepth 100000 in
set_option maxHeartbeats 12800000 in
theorem breads_walk (s : ByteArray) (w : World) (ht : TabE w) (hs : s.size ≤ maxLen) : Calls Tryd.prog 4 #[.string s] w (FlagB true w) := by
  obtain ⟨Q, hQ⟩ : ∃ Q, FlagB true w = Q := ⟨_, rfl⟩
  rw [hQ]
  have FIN : Hid (∀ (w' : World), Below w.heap.size w w' → Q (.returned (.bool true)) w') := Lib.hid (fun w' a => by rw [← hQ]; exact ⟨rfl, a⟩)
  have HT := Lib.hid ht
  clear hQ ht
  by_cases h6 : 2000 < s.size
  · have gl : (2000 : Int) < (s.size : Int) := by omega
    have AW := Lib.hid (aw22_any w HT.out.1 HT.out.2)
    go_enter Tryd.func4, Tryd.ntmps4
    go_wp2_with (go_at_call 9; refine AW.out.mono ?_)
    intro e1 w1 h1
    obtain ⟨rfl, b1⟩ := h1
    have B1 := Lib.hid b1
    clear b1 AW
    go_wp2_with fail
    exact FIN.out _ B1.out
  have gl : ¬ (2000 : Int) < (s.size : Int) := by omega
  by_cases hX : PBank.isTx s.data.toList
  · obtain ⟨per, hper⟩ : ∃ z, PBank.gPer s.data.toList = z := ⟨_, rfl⟩
    obtain ⟨l, hl⟩ : ∃ z, PBank.gPay s.data.toList = z := ⟨_, rfl⟩
    obtain ⟨hR, hT⟩ := (PBank.isTx_iff hper hl).1 hX
    obtain ⟨n, hn⟩ : ∃ n, l.length = n := ⟨_, rfl⟩
    have hn5 : n ≤ 4999 := by rw [← hn]; exact hR.few
    have CR := Lib.hid (read_yes hR hT.symm hn w HT.out.2 HT.out.1)
    have HR := Lib.hid hR; have HTX := Lib.hid hT.symm
    clear hX hper hl hR hT hn hs
    go_enter Tryd.func4, Tryd.ntmps4
    go_wp2_with (go_at_call 14; refine CR.out.mono ?_)
    intro e3 w3 h3
    obtain ⟨A, c, rfl, S3, b3'⟩ := h3
    obtain ⟨w4, w5, hw4, hw5, X4, X5, b35⟩ := file_box w3 24 per A n c
    obtain ⟨x0, x1⟩ := c2 X4
    obtain ⟨xf0, xf1⟩ := f2 X4
    have hsx := X4.1
    obtain ⟨y0, y1⟩ := c2 X5
    have hsy := X5.1
    have b5 := below_step b3' b35
    have HX5 := Lib.hid X5; have HT5 := Lib.hid (HT.out.on b5)
    have B5 := Lib.hid b5
    have S5 := Lib.hid (S3.on b35)
    have HW5 := Lib.hid hw5
    have C1 := Lib.hid (bref_n (per := per) (c := c) S5.out (by omega))
    clear CR S3 b3' X4 X5 b35 b5 hw5 HT
    go_upto_region 4 with fail
    rw [HW5.out]
    clear HW5 hw4 x0 x1 xf0 xf1 hsx
    go_wp2_with (go_at_call 12; refine C1.out.mono ?_)
    intro e6 w6 h6
    obtain ⟨A6, c6, rfl, S6, b6⟩ := h6
    have C2 := Lib.hid (right_n (per := per) (c := c6) S6 (by omega) HR.out)
    have B6 := Lib.hid b6
    clear S6 b6 C1 y0 y1 hsy
    go_wp2_with (go_at_call 11; refine C2.out.mono ?_)
    intro e7 w7 h7
    obtain ⟨rfl, b7⟩ := h7
    have b57 := below_step B6.out b7
    have B7 := Lib.hid b57
    have X7 := HX5.out.on b57
    obtain ⟨y0, y1⟩ := c2 X7
    have hsy := X7.1
    have C3 := Lib.hid (bref_n (per := per) (c := c) (S5.out.on b57) (by omega))
    clear b7 b57 C2 B6 X7
    go_wp2_with (go_at_call 12; refine C3.out.mono ?_)
    intro e8 w8 h8
    obtain ⟨A8, c8, rfl, S8, b8⟩ := h8
    have C4 := Lib.hid (text_n (per := per) (c := c8) S8 (by omega) HR.out HTX.out)
    have B8 := Lib.hid (below_step B7.out b8)
    clear S8 b8 C3 y0 y1 hsy B7
    go_wp2_with (go_at_call 15; refine C4.out.mono ?_)
    intro e9 w9 h9
    obtain ⟨rfl, b9⟩ := h9
    have b59 := below_step B8.out b9
    have B9 := Lib.hid b59
    have AW := Lib.hid (aw22_any w9 (HT5.out.on b59).1 (HT5.out.on b59).2)
    clear b9 b59 C4 B8
    go_wp2_with (go_at_call 9; refine AW.out.mono ?_)
    intro e10 w10 h10
    obtain ⟨rfl, b10⟩ := h10
    have B10 := Lib.hid (below_step B5.out (below_step B9.out b10))
    clear b10 AW
    go_wp2_with fail
    exact FIN.out _ B10.out
  · have CR := Lib.hid (read_no hX (by unfold maxLen at hs; omega) w HT.out.2 HT.out.1)
    clear hX hs
    go_enter Tryd.func4, Tryd.ntmps4
    go_wp2_with (go_at_call 14; refine CR.out.mono ?_)
    intro e3 w3 h3
    obtain ⟨rfl, b3'⟩ := h3
    obtain ⟨w4, w5, hw4, hw5, X4, X5, b35⟩ := file_box w3 24 0 none 0 0
    obtain ⟨x0, x1⟩ := c2 X4
    obtain ⟨xf0, xf1⟩ := f2 X4
    have hsx := X4.1
    obtain ⟨y0, y1⟩ := c2 X5
    have hsy := X5.1
    have b5 := below_step b3' b35
    have AW := Lib.hid (aw22_any w5 (HT.out.on b5).1 (HT.out.on b5).2)
    have B5 := Lib.hid b5
    have HW5 := Lib.hid hw5
    clear CR b3' X4 X5 b35 b5 hw5 HT
    go_upto_region 4 with fail
    rw [HW5.out]
    clear HW5 hw4 x0 x1 xf0 xf1 hsx
    go_wp2_with (go_at_call 9; refine AW.out.mono ?_)
    intro e10 w10 h10
    obtain ⟨rfl, b10⟩ := h10
    have B10 := Lib.hid (below_step B5.out b10)
    clear b10 AW
    go_wp2_with fail
    exact FIN.out _ B10.out
end Go.Proofs.YtbnnmakmgleikaaDoor
