/-
  LexPlaces: each token stands at its place, behind the one ahead; what is wrong behind tokens is told with its place.
-/
import Derived.Test.YtiniiopapkkimaaLaw07Awake
import Derived.Deep.QuietTactic
import Derived.BigQuiet
import Derived.Handy
namespace Go.Proofs.Ytiniiopapkkimaa
open Go.RowKit

theorem slice_at {s : ByteArray} {a n : Nat} {l : List UInt8} (h : (s.data.toList.drop a).take n = l) : s.extract a (a + n) = { data := l.toArray } := by
  apply text_eq
  rw [ByteArray.data_extract, Array.toList_extract, List.extract, Nat.add_sub_cancel_left, h]
theorem bad_behind {s : ByteArray} {ts : List PLex.Tok} (h : PLex.all PLex.kindOf 0 s.data.toList = (none, ts)) : (PLex.all PLex.kindOf 0 (s ++ { data := #[10, 63] }).data.toList).1 = some (s.size + 1) := by
  have e : (s ++ { data := #[10, 63] }).data.toList = s.data.toList ++ 10 :: [63] := by rw [ByteArray.data_append, Array.toList_append]
  rw [e, PLex.all_join _ _ _ _ _ (Nat.le_refl _), h]
  simp only [Array.length_toList]
  rw [show s.data.size = s.size from rfl, PLex.all_cons]
  rw [show PLex.step PLex.kindOf [63] = (0, 1) from rfl]
  simp

set_option maxHeartbeats 3200000 in
theorem lplaces_walk (s : ByteArray) (w : World) (hm : s.size ≤ maxLen) :
    Calls Try.prog 5 #[.string s] w fun e w' => e = .returned (.bool true) ∧ Below w.heap.size w w' := by
  unfold maxLen at hm
  by_cases hs : 600 < s.size
  · have hs' : (600 : Int) < (s.size : Int) := by omega
    go_enter Try.func5, Try.ntmps5
    go_wp2_with fail
    refine (awake_any _).mono ?_
    rintro _ w1 ⟨rfl, b⟩
    have B := Lib.hid b
    clear b
    go_wp2_with fail
    go_ret
    exact ⟨rfl, B.out⟩
  · have hs' : ¬ (600 : Int) < (s.size : Int) := by omega
    obtain ⟨r, hr⟩ : ∃ r, PLex.all PLex.kindOf 0 s.data.toList = r := ⟨_, rfl⟩
    obtain ⟨q, ts⟩ := r
    obtain ⟨hl, hn, hn2⟩ := lex_facts hr
    have hts : ts.length ≤ 600 := by omega
    clear hl hn hn2
    cases q with
    | some q =>
      have HL := Lib.hid (lall_bad (s := s) (q := q) (by rw [hr]) (by omega))
      clear hr
      go_enter Try.func5, Try.ntmps5
      go_wp2_with fail
      refine (HL.out _).mono ?_
      rintro _ w1 ⟨A, cap, rfl, b⟩
      have B1 := Lib.hid b
      clear b HL
      go_wp2_with fail
      refine (awake_any _).mono ?_
      rintro _ w3 ⟨rfl, b⟩
      have B3 := Lib.hid (below_step B1.out b)
      clear b
      go_wp2_with fail
      go_ret
      exact ⟨rfl, B3.out⟩
    | none =>
      have HL := Lib.hid (lall_ok (s := s) (ts := ts) hr (by omega))
      have HB := Lib.hid (lall_bad (bad_behind hr) (by show (s ++ { data := #[10, 63] }).data.size ≤ 99999; rw [ByteArray.data_append, Array.size_append]; show s.size + 2 ≤ 99999; omega))
      have hp := PLex.all_placed (K := PLex.kindOf) s.data.toList.length 0 s.data.toList (Nat.le_refl _)
      rw [hr] at hp
      have HP : Hid (PLex.Placed s.data.toList 0 0 ts) := Lib.hid hp
      clear hr hp
      go_enter Try.func5, Try.ntmps5
      go_wp2_with fail
      refine (HL.out _).mono ?_
      rintro _ w1 ⟨A, cap, rfl, s1, b⟩
      have S1 := Lib.hid s1
      have B1 := Lib.hid b
      clear b HL s1
      go_wp2_with fail
      go_loopw [6, 32] (fun v i wr => ∃ (t e : Nat), t ≤ ts.length ∧ i = .int .i64 t ∧ v = .int .i64 e ∧ e ≤ s.size ∧ Hid (PLex.Placed s.data.toList 0 e (ts.drop t)) ∧ Hid (Below w1.heap.size w1 wr)) (fun _ i _ => ts.length - (intOf i).toNat)
      case atStart => exact ⟨0, 0, Nat.zero_le _, rfl, rfl, Nat.zero_le _, HP, (show Hid _ from Below.refl _ _)⟩
      case round =>
        obtain ⟨t, e, ht, rfl, rfl, he, HQ, HW⟩ := hrel
        have ST := S1.out.on HW.out
        by_cases hlt : t < ts.length
        · obtain ⟨b, off, rfl, hc⟩ := ST.at hlt
          obtain ⟨c0, c1, c2⟩ := hc t hlt
          have hq := HQ.out
          rw [List.drop_eq_getElem_cons hlt] at hq
          obtain ⟨x, hx⟩ : ∃ x, ts[t] = x := ⟨_, rfl⟩
          rw [hx] at c0 c1 c2 hq
          obtain ⟨q1, q2, q3, q4, _, q6⟩ := hq
          have hsz := World.block_lt_of_cell? wr _ c0
          rw [Nat.sub_zero] at q4
          have hsl : s.data.toList.length = s.size := by simp
          rw [hsl, Nat.zero_add] at q3
          obtain ⟨n, hn⟩ : ∃ n, x.text.length = n := ⟨_, rfl⟩
          rw [hn] at q3 q4 q6
          have E1 := slice_at q4
          have hne : ({ data := x.text.toArray } : ByteArray) ≠ { data := #[] } := fun h => q2 (by have := congrArg (fun a => a.data.toList) h; simpa using this)
          have hbs : ({ data := x.text.toArray } : ByteArray).size = n := by show x.text.toArray.size = n; rw [List.size_toArray]; exact hn
          obtain ⟨u, hu⟩ : ∃ u, ({ data := x.text.toArray } : ByteArray) = u := ⟨_, rfl⟩
          obtain ⟨p, hp⟩ : ∃ p, x.at_ = p := ⟨_, rfl⟩
          obtain ⟨z, hz⟩ : ∃ z, p + n = z := ⟨_, rfl⟩
          rw [hu] at c1 E1 hne hbs
          rw [hp] at q1 q3 q6 c2 E1
          rw [hz] at q3 q6 E1
          have Q6 := Lib.hid q6
          have d1 : decide (p < e) = false := decide_eq_false (by omega)
          have zz : (p : Int) + (n : Int) = (z : Int) := by omega
          have d2 : decide (s.size < z) = false := decide_eq_false (by omega)
          have d3 : u.toList.isEmpty = false := by rw [ByteArray.toList_eq, ← hu]; simpa using q2
          have d4 : p ≤ z := by omega
          clear hc ST hx q2 q4 q6 hsl hn hu hp hz hne
          go_wp2_with fail
          go_big_quiet (fail)
          go_wp2_with fail
          exact ⟨⟨t + 1, z, by omega, rfl, rfl, q3, Q6, Lib.hid (below_drewT (HW.out.alloc HW.out.size _) _)⟩, by simp [intOf]; omega⟩
        · obtain rfl : t = ts.length := by omega
          have B2 := Lib.hid (below_step B1.out HW.out)
          clear ST
          go_wp2_with fail
          refine (HB.out _).mono ?_
          rintro _ w2 ⟨A2, cap2, rfl, b⟩
          have B3 := Lib.hid (below_step B2.out b)
          clear b HB B2
          go_wp2_with fail
          refine (awake_any _).mono ?_
          rintro _ w3 ⟨rfl, b⟩
          have B6 := Lib.hid (below_step B3.out b)
          clear b
          go_wp2_with fail
          go_ret
          exact ⟨rfl, B6.out⟩
end Go.Proofs.Ytiniiopapkkimaa
