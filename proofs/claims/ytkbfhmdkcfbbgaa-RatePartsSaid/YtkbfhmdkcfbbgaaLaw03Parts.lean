/-
  RateParts: a part is never farther from 0 than the amount, nor on the other side; none, and all, of it are 0, and it.
-/
import Derived.Test.YtkbfhmdkcfbbgaaLaw03Awake
import Derived.Test.YtkbfhmdkcfbbgaaLaw03Math
namespace Go.Proofs.Ytkbfhmdkcfbbgaa
open Go.RowKit

theorem ofP_in {a b m : Int} (h0 : 0 ≤ b) (h1 : b ≤ 10000) : ofP a b m = md a b 10000 m := by unfold ofP; rw [if_pos ⟨h0, h1⟩]

set_option maxHeartbeats 1600000 in
theorem rparts_in (a b u : Int) (w : World) (ha : -9223372036854775807 ≤ a) (ha' : a ≤ 9223372036854775807) (hb : 0 ≤ b) (hb' : b ≤ 10000) (hu : 0 ≤ u) (hu' : u ≤ 255) :
    Calls Try.prog 4 #[.int .i64 a, .int .i64 b, .int .u8 u] w fun e w' => e = .returned (.bool true) ∧ Below w.heap.size w w' := by
  obtain ⟨n, hn, hp, hm⟩ := md_side a b 10000 (u % 4) ha ha' hb hb' (by omega) (by omega) (by omega)
  have M1 := Lib.hid (of_at ((ofP_in hb hb').trans hn) (by omega) (by omega))
  have M2 := Lib.hid (of_at ((ofP_in (m := u % 4) (by omega) (by omega)).trans (md_none a 10000 (u % 4) ha ha' (by omega) (by omega) (by omega))) (by omega) (by omega))
  have M3 := Lib.hid (of_at ((ofP_in (m := u % 4) (by omega) (by omega)).trans (md_whole a 10000 (u % 4) ha ha' (by omega) (by omega) (by omega))) (by omega) (by omega))
  have x1 : (a == -9223372036854775808) = false := by rw [beq_eq_false_iff_ne]; omega
  clear hn
  by_cases h : 0 ≤ a
  · obtain ⟨p0, p1⟩ := hp h
    clear hp hm
    go_enter Try.func4, Try.ntmps4
    go_wp2_with fail
    refine (M1.out _).mono ?_
    rintro _ w1 ⟨rfl, b1⟩
    go_wp2_with fail
    refine (M2.out _).mono ?_
    rintro _ w2 ⟨rfl, b2⟩
    go_wp2_with fail
    refine (M3.out _).mono ?_
    rintro _ w3 ⟨rfl, b3⟩
    go_wp2_with fail
    refine (awake_any _).mono ?_
    rintro _ w4 ⟨rfl, b4⟩
    go_wp2
    go_ret
    exact ⟨rfl, below_step (below_step (below_step b1 b2) b3) b4⟩
  · have h' : a < 0 := by omega
    obtain ⟨p0, p1⟩ := hm h'
    clear hp hm h
    go_enter Try.func4, Try.ntmps4
    go_wp2_with fail
    refine (M1.out _).mono ?_
    rintro _ w1 ⟨rfl, b1⟩
    go_wp2_with fail
    refine (M2.out _).mono ?_
    rintro _ w2 ⟨rfl, b2⟩
    go_wp2_with fail
    refine (M3.out _).mono ?_
    rintro _ w3 ⟨rfl, b3⟩
    go_wp2_with fail
    refine (awake_any _).mono ?_
    rintro _ w4 ⟨rfl, b4⟩
    go_wp2
    go_ret
    exact ⟨rfl, below_step (below_step (below_step b1 b2) b3) b4⟩

set_option maxHeartbeats 1600000 in
theorem rparts_out (a b u : Int) (w : World) (h : a = -9223372036854775808 ∨ b < 0 ∨ 10000 < b) :
    Calls Try.prog 4 #[.int .i64 a, .int .i64 b, .int .u8 u] w fun e w' => e = .returned (.bool true) ∧ Below w.heap.size w w' := by
  by_cases h1 : a = -9223372036854775808
  · subst h1
    clear h
    go_enter Try.func4, Try.ntmps4
    go_wp2_with fail
    refine (awake_any _).mono ?_
    rintro _ w4 ⟨rfl, b4⟩
    go_wp2
    go_ret
    exact ⟨rfl, b4⟩
  · have x1 : (a == -9223372036854775808) = false := by rw [beq_eq_false_iff_ne]; exact h1
    by_cases h2 : b < 0
    · clear h
      go_enter Try.func4, Try.ntmps4
      go_wp2_with fail
      refine (awake_any _).mono ?_
      rintro _ w4 ⟨rfl, b4⟩
      go_wp2
      go_ret
      exact ⟨rfl, b4⟩
    · have h3 : 10000 < b := by omega
      clear h
      go_enter Try.func4, Try.ntmps4
      go_wp2_with fail
      refine (awake_any _).mono ?_
      rintro _ w4 ⟨rfl, b4⟩
      go_wp2
      go_ret
      exact ⟨rfl, b4⟩

theorem rparts_walk (a b u : Int) (w : World) (ha : (Lit.int .i64 a).wf = true) (_ : (Lit.int .i64 b).wf = true) (hu : (Lit.int .u8 u).wf = true) :
    Calls Try.prog 4 #[.int .i64 a, .int .i64 b, .int .u8 u] w fun e w' => e = .returned (.bool true) ∧ Below w.heap.size w w' := by
  have ha := i64_bounds ha; have hu := u8_bounds hu
  by_cases h : a = -9223372036854775808 ∨ b < 0 ∨ 10000 < b
  · exact rparts_out a b u w h
  · exact rparts_in a b u w (by omega) (by omega) (by omega) (by omega) hu.1 hu.2
end Go.Proofs.Ytkbfhmdkcfbbgaa
