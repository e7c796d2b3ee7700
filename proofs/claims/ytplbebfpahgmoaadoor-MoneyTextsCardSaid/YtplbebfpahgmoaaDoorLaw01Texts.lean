/-
  MoneyTexts: the text of any number is what the document says, and it is parsed; any text is the amount that it says, or none (at most 60 bytes).
-/
import Derived.Test.YtplbebfpahgmoaaDoorLaw01Places
import Derived.Test.YtplbebfpahgmoaaDoorRef01Parse
import Derived.Test.YtplbebfpahgmoaaDoorRef01Add
namespace Go.Proofs.YtplbebfpahgmoaaDoor
open Go.RowKit

theorem refparse_some (s : ByteArray) (w : World) (hs : s.size ≤ 9223372036854775807) (q : Int) (h : PMoney.parse s.data.toList = some q) :
    Calls Tryd.prog 20 #[.string s] w fun e w' => e = .returned (.tuple #[.int .i64 q, .bool true]) ∧ Below w.heap.size w w' := by
  refine (refparse_any s w hs).mono ?_
  rintro e w' ⟨x, b, rfl, rfl, hx, hb⟩
  rw [h, hx q h]
  exact ⟨rfl, hb⟩
def SomeInt (w : World) (e : Ending) (w' : World) : Prop := ∃ x : Int, e = .returned (.tuple #[.int .i64 x, .bool false]) ∧ Below w.heap.size w w'
theorem refparse_none (s : ByteArray) (w : World) (hs : s.size ≤ 9223372036854775807) (h : PMoney.parse s.data.toList = none) :
    Calls Tryd.prog 20 #[.string s] w (SomeInt w) := by
  refine (refparse_any s w hs).mono ?_
  rintro e w' ⟨x, b, rfl, rfl, hx, hb⟩
  rw [h]
  exact ⟨x, rfl, hb⟩
theorem parse_some' (s : ByteArray) (w : World) (hs : s.size ≤ 9223372036854775807) (q : Int) (h : PMoney.parse s.data.toList = some q) :
    Calls Tryd.prog 19 #[.string s] w fun e w' => e = .returned (.tuple #[.int .i64 q, .bool true]) ∧ w = w' := by
  have := parse_any s w hs
  rw [parseV_some h] at this
  exact this
theorem parse_none' (s : ByteArray) (w : World) (hs : s.size ≤ 9223372036854775807) (h : PMoney.parse s.data.toList = none) :
    Calls Tryd.prog 19 #[.string s] w fun e w' => e = .returned (.tuple #[.int .i64 0, .bool false]) ∧ w = w' := by
  have := parse_any s w hs
  rw [parseV_none h] at this
  exact this

set_option maxHeartbeats 1600000 in
set_option maxRecDepth 100000 in
theorem texts_great (n : Int) (s : ByteArray) (w : World) (ht : Tab w) (hs : 60 < s.size) :
    Calls Tryd.prog 4 #[.int .i64 n, .string s] w fun e w' => e = .returned (.bool true) ∧ Below w.heap.size w w' := by
  go_enter Tryd.func4, Tryd.ntmps4
  go_wp2_with fail
  refine (awake_yes _ ht).mono ?_
  rintro _ w2 ⟨rfl, hb2⟩
  go_wp2
  go_ret
  exact ⟨rfl, hb2⟩

set_option maxHeartbeats 1600000 in
set_option maxRecDepth 100000 in
theorem texts_yy (n : Int) (s : ByteArray) (w : World) (ht : Tab w) (hs : s.size ≤ 60) (q : Int) (hq : PMoney.parse s.data.toList = some q) (h0 : -9223372036854775807 ≤ n) (h1 : n ≤ 9223372036854775807) :
    Calls Tryd.prog 4 #[.int .i64 n, .string s] w fun e w' => e = .returned (.bool true) ∧ Below w.heap.size w w' := by
  obtain ⟨u, hu⟩ : ∃ u : ByteArray, u = ⟨(PMoney.text n).toArray⟩ := ⟨_, rfl⟩
  obtain ⟨l4, l30, -⟩ := text_at hu (by omega) h1
  have HU := Lib.hid hu; clear hu
  have HQ := Lib.hid hq; clear hq
  go_enter Tryd.func4, Tryd.ntmps4
  go_wp2_with fail
  refine (text_as _ _ h0 h1 ht u HU.out).mono ?_
  rintro _ w1 ⟨rfl, hb1⟩
  go_wp2_with fail
  refine (parse_some' s _ (by omega) q HQ.out).mono ?_
  rintro _ _ ⟨rfl, rfl⟩
  go_wp2_with fail
  refine (refparse_some s _ (by omega) q HQ.out).mono ?_
  rintro _ w2 ⟨rfl, hb2⟩
  go_wp2_with fail
  refine (refright_yes _ _ h0).mono ?_
  rintro _ _ ⟨rfl, rfl⟩
  go_wp2_with fail
  refine (parse_as n _ u (by omega) (by omega) (by rw [HU.out])).mono ?_
  rintro _ _ ⟨rfl, rfl⟩
  go_wp2_with fail
  refine (reftext_as _ _ h0 h1 u HU.out).mono ?_
  rintro _ w3 ⟨rfl, hb3⟩
  go_wp2_with fail
  refine (awake_yes _ (((ht.on hb1).on hb2).on hb3)).mono ?_
  rintro _ w4 ⟨rfl, hb4⟩
  go_wp2
  go_ret
  exact ⟨rfl, below_step (below_step (below_step hb1 hb2) hb3) hb4⟩

set_option maxHeartbeats 1600000 in
set_option maxRecDepth 100000 in
theorem texts_ny (n : Int) (s : ByteArray) (w : World) (ht : Tab w) (hs : s.size ≤ 60) (hq : PMoney.parse s.data.toList = none) (h0 : -9223372036854775807 ≤ n) (h1 : n ≤ 9223372036854775807) :
    Calls Tryd.prog 4 #[.int .i64 n, .string s] w fun e w' => e = .returned (.bool true) ∧ Below w.heap.size w w' := by
  obtain ⟨u, hu⟩ : ∃ u : ByteArray, u = ⟨(PMoney.text n).toArray⟩ := ⟨_, rfl⟩
  obtain ⟨l4, l30, -⟩ := text_at hu (by omega) h1
  have HU := Lib.hid hu; clear hu
  have HQ := Lib.hid hq; clear hq
  go_enter Tryd.func4, Tryd.ntmps4
  go_wp2_with fail
  refine (text_as _ _ h0 h1 ht u HU.out).mono ?_
  rintro _ w1 ⟨rfl, hb1⟩
  go_wp2_with fail
  refine (parse_none' s _ (by omega) HQ.out).mono ?_
  rintro _ _ ⟨rfl, rfl⟩
  go_wp2_with fail
  refine (refparse_none s _ (by omega) HQ.out).mono ?_
  rintro _ w2 ⟨x, rfl, hb2⟩
  by_cases hx : x = 0
  · have e1 : (0 != x) = false := by rw [bne_eq_false_iff_eq]; exact hx.symm
    clear hx
    go_wp2_with fail
    refine (refright_yes _ _ h0).mono ?_
    rintro _ _ ⟨rfl, rfl⟩
    go_wp2_with fail
    refine (parse_as n _ u (by omega) (by omega) (by rw [HU.out])).mono ?_
    rintro _ _ ⟨rfl, rfl⟩
    go_wp2_with fail
    refine (reftext_as _ _ h0 h1 u HU.out).mono ?_
    rintro _ w3 ⟨rfl, hb3⟩
    go_wp2_with fail
    refine (awake_yes _ (((ht.on hb1).on hb2).on hb3)).mono ?_
    rintro _ w4 ⟨rfl, hb4⟩
    go_wp2
    go_ret
    exact ⟨rfl, below_step (below_step (below_step hb1 hb2) hb3) hb4⟩
  · have e1 : (0 != x) = true := by rw [bne_iff_ne]; exact fun e => hx e.symm
    clear hx
    go_wp2_with fail
    refine (refright_yes _ _ h0).mono ?_
    rintro _ _ ⟨rfl, rfl⟩
    go_wp2_with fail
    refine (parse_as n _ u (by omega) (by omega) (by rw [HU.out])).mono ?_
    rintro _ _ ⟨rfl, rfl⟩
    go_wp2_with fail
    refine (reftext_as _ _ h0 h1 u HU.out).mono ?_
    rintro _ w3 ⟨rfl, hb3⟩
    go_wp2_with fail
    refine (awake_yes _ (((ht.on hb1).on hb2).on hb3)).mono ?_
    rintro _ w4 ⟨rfl, hb4⟩
    go_wp2
    go_ret
    exact ⟨rfl, below_step (below_step (below_step hb1 hb2) hb3) hb4⟩

set_option maxHeartbeats 1600000 in
set_option maxRecDepth 100000 in
theorem texts_yn (n : Int) (s : ByteArray) (w : World) (ht : Tab w) (hs : s.size ≤ 60) (q : Int) (hq : PMoney.parse s.data.toList = some q) (hn : -9223372036854775808 ≤ n) (h0 : n < -9223372036854775807) :
    Calls Tryd.prog 4 #[.int .i64 n, .string s] w fun e w' => e = .returned (.bool true) ∧ Below w.heap.size w w' := by
  have HQ := Lib.hid hq; clear hq
  go_enter Tryd.func4, Tryd.ntmps4
  go_wp2_with fail
  refine (text_no _ _ h0).mono ?_
  rintro _ _ ⟨rfl, rfl⟩
  go_wp2_with fail
  refine (parse_some' s _ (by omega) q HQ.out).mono ?_
  rintro _ _ ⟨rfl, rfl⟩
  go_wp2_with fail
  refine (refparse_some s _ (by omega) q HQ.out).mono ?_
  rintro _ w2 ⟨rfl, hb2⟩
  go_wp2_with fail
  refine (refright_no _ _ hn h0).mono ?_
  rintro _ _ ⟨rfl, rfl⟩
  go_wp2_with fail
  refine (awake_yes _ (ht.on hb2)).mono ?_
  rintro _ w4 ⟨rfl, hb4⟩
  go_wp2
  go_ret
  exact ⟨rfl, below_step hb2 hb4⟩

set_option maxHeartbeats 1600000 in
set_option maxRecDepth 100000 in
theorem texts_nn (n : Int) (s : ByteArray) (w : World) (ht : Tab w) (hs : s.size ≤ 60) (hq : PMoney.parse s.data.toList = none) (hn : -9223372036854775808 ≤ n) (h0 : n < -9223372036854775807) :
    Calls Tryd.prog 4 #[.int .i64 n, .string s] w fun e w' => e = .returned (.bool true) ∧ Below w.heap.size w w' := by
  have HQ := Lib.hid hq; clear hq
  go_enter Tryd.func4, Tryd.ntmps4
  go_wp2_with fail
  refine (text_no _ _ h0).mono ?_
  rintro _ _ ⟨rfl, rfl⟩
  go_wp2_with fail
  refine (parse_none' s _ (by omega) HQ.out).mono ?_
  rintro _ _ ⟨rfl, rfl⟩
  go_wp2_with fail
  refine (refparse_none s _ (by omega) HQ.out).mono ?_
  rintro _ w2 ⟨x, rfl, hb2⟩
  by_cases hx : x = 0
  · have e1 : (0 != x) = false := by rw [bne_eq_false_iff_eq]; exact hx.symm
    clear hx
    go_wp2_with fail
    refine (refright_no _ _ hn h0).mono ?_
    rintro _ _ ⟨rfl, rfl⟩
    go_wp2_with fail
    refine (awake_yes _ (ht.on hb2)).mono ?_
    rintro _ w4 ⟨rfl, hb4⟩
    go_wp2
    go_ret
    exact ⟨rfl, below_step hb2 hb4⟩
  · have e1 : (0 != x) = true := by rw [bne_iff_ne]; exact fun e => hx e.symm
    clear hx
    go_wp2_with fail
    refine (refright_no _ _ hn h0).mono ?_
    rintro _ _ ⟨rfl, rfl⟩
    go_wp2_with fail
    refine (awake_yes _ (ht.on hb2)).mono ?_
    rintro _ w4 ⟨rfl, hb4⟩
    go_wp2
    go_ret
    exact ⟨rfl, below_step hb2 hb4⟩

theorem texts_walk (n : Int) (s : ByteArray) (w : World) (ht : Tab w) (hn : (Lit.int .i64 n).wf = true) (_ : s.size ≤ maxLen) :
    Calls Tryd.prog 4 #[.int .i64 n, .string s] w fun e w' => e = .returned (.bool true) ∧ Below w.heap.size w w' := by
  obtain ⟨n0, n1⟩ := i64_bounds hn
  by_cases hs : 60 < s.size
  · exact texts_great n s w ht hs
  · rcases hq : PMoney.parse s.data.toList with _ | q
    · by_cases h0 : -9223372036854775807 ≤ n
      · exact texts_ny n s w ht (by omega) hq h0 n1
      · exact texts_nn n s w ht (by omega) hq n0 (by omega)
    · by_cases h0 : -9223372036854775807 ≤ n
      · exact texts_yy n s w ht (by omega) q hq h0 n1
      · exact texts_yn n s w ht (by omega) q hq n0 (by omega)
end Go.Proofs.YtplbebfpahgmoaaDoor
