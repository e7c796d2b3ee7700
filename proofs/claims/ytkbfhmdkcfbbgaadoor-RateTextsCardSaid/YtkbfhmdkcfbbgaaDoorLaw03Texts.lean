/-
  RateTexts: the text of any rate is what the document says, and it is parsed; any text is the rate that it says, or none (of texts at most 60 bytes).
-/
import Derived.Test.YtkbfhmdkcfbbgaaDoorLaw03Awake
import Derived.Test.YtkbfhmdkcfbbgaaDoorRef03
namespace Go.Proofs.YtkbfhmdkcfbbgaaDoor
open Go.RowKit

theorem rparseV_is (l : List UInt8) : ∃ (k : Int) (ok : Bool), rparseV l = .tuple #[.int .i64 k, .bool ok] := by
  unfold rparseV
  cases PRate.parse l with
  | none => exact ⟨_, _, rfl⟩
  | some n => exact ⟨_, _, rfl⟩

set_option maxHeartbeats 1600000 in
theorem rtexts_great (n : Int) (s : ByteArray) (w : World) (h : 60 < s.size) :
    Calls Tryd.prog 3 #[.int .i64 n, .string s] w fun e w' => e = .returned (.bool true) ∧ Below w.heap.size w w' := by
  have h' : (60 : Int) < (s.size : Int) := by omega
  go_enter Tryd.func3, Tryd.ntmps3
  go_wp2_with fail
  refine (awake_any _).mono ?_
  rintro _ w4 ⟨rfl, b4⟩
  go_wp2
  go_ret
  exact ⟨rfl, b4⟩

set_option maxHeartbeats 1600000 in
set_option maxRecDepth 100000 in
theorem rtexts_in (n : Int) (s : ByteArray) (w : World) (ht : Tab w) (hs : s.size ≤ 60) (h0 : 0 ≤ n) (h1 : n ≤ 10000) :
    Calls Tryd.prog 3 #[.int .i64 n, .string s] w fun e w' => e = .returned (.bool true) ∧ Below w.heap.size w w' := by
  obtain ⟨k, ok, hk⟩ := rparseV_is s.data.toList
  have P := Lib.hid (fun w => rparse_any s w (by omega))
  have RP := Lib.hid (fun w => refparse3 s w (by omega))
  rw [hk] at P RP
  obtain ⟨u, hu⟩ : ∃ u : ByteArray, u = ⟨(PRate.text n).toArray⟩ := ⟨_, rfl⟩
  have hl := PRate.text_len n h0 h1
  have hus : u.size ≤ 7 := by rw [hu]; show (PRate.text n).toArray.size ≤ 7; simpa using hl.2
  have T := Lib.hid (rtext_yes n w h0 h1 ht u hu)
  have RT := Lib.hid (fun w => reftext3 n w h0 h1 u hu)
  have PU := Lib.hid (fun w => rparse_any u w (by omega))
  rw [show u.data.toList = PRate.text n by rw [hu], rparseV_some (PRate.parse_text n h0 h1)] at PU
  clear hk hu hl
  go_enter Tryd.func3, Tryd.ntmps3
  go_wp2_with fail
  refine T.out.mono ?_
  rintro _ w1 ⟨rfl, b1⟩
  go_wp2_with fail
  refine (P.out _).mono ?_
  rintro _ _ ⟨rfl, rfl⟩
  go_wp2_with fail
  refine (RP.out _).mono ?_
  rintro _ w2 ⟨rfl, b2⟩
  go_wp2_with fail
  refine (PU.out _).mono ?_
  rintro _ _ ⟨rfl, rfl⟩
  go_wp2_with fail
  refine (RT.out _).mono ?_
  rintro _ w3 ⟨rfl, b3⟩
  go_wp2_with fail
  refine (awake_any _).mono ?_
  rintro _ w4 ⟨rfl, b4⟩
  go_wp2
  go_ret
  exact ⟨rfl, below_step (below_step (below_step b1 b2) b3) b4⟩

set_option maxHeartbeats 1600000 in
set_option maxRecDepth 100000 in
theorem rtexts_out (n : Int) (s : ByteArray) (w : World) (hs : s.size ≤ 60) (h : ¬ (0 ≤ n ∧ n ≤ 10000)) :
    Calls Tryd.prog 3 #[.int .i64 n, .string s] w fun e w' => e = .returned (.bool true) ∧ Below w.heap.size w w' := by
  obtain ⟨k, ok, hk⟩ := rparseV_is s.data.toList
  have P := Lib.hid (fun w => rparse_any s w (by omega))
  have RP := Lib.hid (fun w => refparse3 s w (by omega))
  rw [hk] at P RP
  have T := Lib.hid (rtext_no n w h)
  clear hk
  by_cases h0 : n < 0
  · clear h
    go_enter Tryd.func3, Tryd.ntmps3
    go_wp2_with fail
    refine T.out.mono ?_
    rintro _ _ ⟨rfl, rfl⟩
    go_wp2_with fail
    refine (P.out _).mono ?_
    rintro _ _ ⟨rfl, rfl⟩
    go_wp2_with fail
    refine (RP.out _).mono ?_
    rintro _ w2 ⟨rfl, b2⟩
    go_wp2_with fail
    refine (awake_any _).mono ?_
    rintro _ w4 ⟨rfl, b4⟩
    go_wp2
    go_ret
    exact ⟨rfl, below_step b2 b4⟩
  · have h1 : 10000 < n := by omega
    clear h
    go_enter Tryd.func3, Tryd.ntmps3
    go_wp2_with fail
    refine T.out.mono ?_
    rintro _ _ ⟨rfl, rfl⟩
    go_wp2_with fail
    refine (P.out _).mono ?_
    rintro _ _ ⟨rfl, rfl⟩
    go_wp2_with fail
    refine (RP.out _).mono ?_
    rintro _ w2 ⟨rfl, b2⟩
    go_wp2_with fail
    refine (awake_any _).mono ?_
    rintro _ w4 ⟨rfl, b4⟩
    go_wp2
    go_ret
    exact ⟨rfl, below_step b2 b4⟩

theorem rtexts_walk (n : Int) (s : ByteArray) (w : World) (ht : Tab w) (_ : (Lit.int .i64 n).wf = true) (_ : s.size ≤ maxLen) :
    Calls Tryd.prog 3 #[.int .i64 n, .string s] w fun e w' => e = .returned (.bool true) ∧ Below w.heap.size w w' := by
  by_cases hs : 60 < s.size
  · exact rtexts_great n s w hs
  · by_cases h : 0 ≤ n ∧ n ≤ 10000
    · exact rtexts_in n s w ht (by omega) h.1 h.2
    · exact rtexts_out n s w (by omega) h
end Go.Proofs.YtkbfhmdkcfbbgaaDoor
