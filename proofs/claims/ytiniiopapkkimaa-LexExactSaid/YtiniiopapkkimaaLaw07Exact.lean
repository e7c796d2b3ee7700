/-
  LexExact: the tokens of any text are what the document says, or the place of what is none.
-/
import Derived.Test.YtiniiopapkkimaaLaw07Awake
import Derived.Test.YtiniiopapkkimaaRef07All
import Derived.Deep.QuietTactic
import Derived.BigQuiet
import Derived.Handy
namespace Go.Proofs.Ytiniiopapkkimaa
open Go.RowKit

theorem RefAll.cases {w : World} {e : Ending} {w' : World} {r : Option Nat × List PLex.Tok} (h : RefAll r w e w') :
    (∀ q, r.1 = some q → ∃ A cap, e = .returned (.tuple #[.slice A 0 cap, .int .i64 q]) ∧ Below w.heap.size w w') ∧
    (r.1 = none → ∃ A cap, e = .returned (.tuple #[.slice A r.2.length cap, .int .i64 (-1)]) ∧ SlT w' A r.2.length r.2 ∧ Below w.heap.size w w') := by
  obtain ⟨A, n, cap, rfl, _, _, h3, h4⟩ := h
  refine ⟨fun q hq => ?_, fun hq => ?_⟩
  · rw [hq] at h3 ⊢
    obtain rfl : 0 = n := h3.1
    exact ⟨A, cap, rfl, h4⟩
  · rw [hq] at h3 ⊢
    obtain rfl : r.2.length = n := h3.1
    exact ⟨A, cap, rfl, h3, h4⟩

set_option maxHeartbeats 3200000 in
theorem lexact_walk (s : ByteArray) (w : World) (hm : s.size ≤ maxLen) :
    Calls Try.prog 3 #[.string s] w fun e w' => e = .returned (.bool true) ∧ Below w.heap.size w w' := by
  unfold maxLen at hm
  by_cases hs : 600 < s.size
  · have hs' : (600 : Int) < (s.size : Int) := by omega
    go_enter Try.func3, Try.ntmps3
    go_wp2_with fail
    refine (awake_any _).mono ?_
    rintro _ w1 ⟨rfl, b⟩
    have B := Lib.hid b
    clear b
    go_wp2_with fail
    go_ret
    exact ⟨rfl, B.out⟩
  · have hs' : ¬ (600 : Int) < (s.size : Int) := by omega
    obtain ⟨r, hr⟩ : ∃ r, PLex.all PLex.kindOf 0 s.data.toList = r := ⟨_, rfl⟩
    obtain ⟨q, ts⟩ := r
    have hl := PLex.all_lone (K := PLex.kindOf) s.data.toList.length 0 s.data.toList (Nat.le_refl _)
    have hn := PLex.all_sum (K := PLex.kindOf) s.data.toList.length 0 s.data.toList (Nat.le_refl _)
    rw [hr] at hl hn
    have hn2 := PLex.sum_len (fun x hx => (hl x hx).ne)
    have hsl : s.data.toList.length = s.size := by simp
    have hts : ts.length ≤ 600 := by simp only [] at hn hn2; omega
    clear hn hn2 hl hsl
    have HR := Lib.hid (fun w => refall_any s w (by omega))
    rw [hr] at HR
    cases q with
    | some q =>
      have HL := Lib.hid (lall_bad (s := s) (q := q) (by rw [hr]) (by omega))
      clear hr
      go_enter Try.func3, Try.ntmps3
      go_wp2_with fail
      refine (HL.out _).mono ?_
      rintro _ w1 ⟨A, cap, rfl, b⟩
      have B1 := Lib.hid b
      clear b HL
      go_wp2_with fail
      refine (HR.out _).mono ?_
      rintro e2 w2 h2
      obtain ⟨A2, cap2, rfl, b⟩ := (RefAll.cases h2).1 q rfl
      have B2 := Lib.hid (below_step B1.out b)
      clear b HR h2
      go_wp2_with fail
      refine (awake_any _).mono ?_
      rintro _ w3 ⟨rfl, b⟩
      have B3 := Lib.hid (below_step B2.out b)
      clear b
      go_wp2_with fail
      go_ret
      exact ⟨rfl, B3.out⟩
    | none =>
      have HL := Lib.hid (lall_ok (s := s) (ts := ts) hr (by omega))
      clear hr
      have nn : ((ts.length : Int) != (ts.length : Int)) = false := bne_self_eq_false _
      go_enter Try.func3, Try.ntmps3
      go_wp2_with fail
      refine (HL.out _).mono ?_
      rintro _ w1 ⟨A, cap, rfl, s1, b⟩
      have S1 := Lib.hid s1
      have B1 := Lib.hid b
      clear b HL s1
      go_wp2_with fail
      refine (HR.out _).mono ?_
      rintro e2 w2 h2
      obtain ⟨A2, cap2, rfl, s2, b⟩ := (RefAll.cases h2).2 rfl
      have S2 := Lib.hid s2
      have S1 := Lib.hid (S1.out.on b)
      have B2 := Lib.hid (below_step B1.out b)
      simp only [] at S2
      clear b HR h2 s2 B1
      go_wp2_with fail
      go_loopw [56] (fun i wr => ∃ (t : Nat), t ≤ ts.length ∧ i = .int .i64 t ∧ Hid (Below w2.heap.size w2 wr)) (fun i _ => ts.length - (intOf i).toNat)
      case atStart => exact ⟨0, Nat.zero_le _, rfl, (show Hid _ from Below.refl _ _)⟩
      case round =>
        obtain ⟨t, ht, rfl, HB⟩ := hrel
        have ST := S1.out.on HB.out
        have AT := S2.out.on HB.out
        by_cases hlt : t < ts.length
        · obtain ⟨b, off, rfl, hc⟩ := ST.at hlt
          obtain ⟨b2, off2, rfl, hc2⟩ := AT.at hlt
          obtain ⟨c0, c1, c2⟩ := hc t hlt
          obtain ⟨e0, e1, e2⟩ := hc2 t hlt
          have hsz := World.block_lt_of_cell? wr _ c0
          have hsz2 := World.block_lt_of_cell? wr _ e0
          generalize ts[t] = x at *
          clear hc hc2 ST AT
          go_wp2_with fail
          go_big_quiet (fail)
          go_wp2_with fail
          exact ⟨⟨t + 1, by omega, rfl, Lib.hid (below_drewT HB.out _)⟩, by simp [intOf]; omega⟩
        · obtain rfl : t = ts.length := by omega
          have B3 := Lib.hid (below_step B2.out HB.out)
          clear ST AT
          go_wp2_with fail
          refine (awake_any _).mono ?_
          rintro _ w3 ⟨rfl, b⟩
          have B4 := Lib.hid (below_step B3.out b)
          clear b
          go_wp2_with fail
          go_ret
          exact ⟨rfl, B4.out⟩
end Go.Proofs.Ytiniiopapkkimaa
