/-
  LexAgain: tokens, one blank apart, are the tokens; so they are with a comment, and lines, between.
-/
import Derived.Test.YtiniiopapkkimaaLaw07Awake
import Derived.Deep.QuietTactic
import Derived.BigQuiet
import Derived.Handy
namespace Go.Proofs.Ytiniiopapkkimaa
open Go.RowKit

set_option maxHeartbeats 3200000 in
theorem lagain_walk (s : ByteArray) (w : World) (hm : s.size ≤ maxLen) :
    Calls Try.prog 4 #[.string s] w fun e w' => e = .returned (.bool true) ∧ Below w.heap.size w w' := by
  unfold maxLen at hm
  by_cases hs : 600 < s.size
  · have hs' : (600 : Int) < (s.size : Int) := by omega
    go_enter Try.func4, Try.ntmps4
    go_wp2_with fail
    refine (awake_any _).mono ?_
    rintro _ w1 ⟨rfl, b⟩
    have B := Lib.hid b
    clear b
    go_wp2_with fail
    go_ret
    exact ⟨rfl, B.out⟩
  · have hs' : ¬ (600 : Int) < (s.size : Int) := by omega
    obtain ⟨r, hr⟩ : ∃ r, PLex.all PLex.kindOf 0 s.data.toList = r := ⟨_, rfl⟩
    obtain ⟨q, ts⟩ := r
    obtain ⟨hl, hn, hn2⟩ := lex_facts hr
    have hts : ts.length ≤ 600 := by omega
    cases q with
    | some q =>
      have HL := Lib.hid (lall_bad (s := s) (q := q) (by rw [hr]) (by omega))
      clear hr
      go_enter Try.func4, Try.ntmps4
      go_wp2_with fail
      refine (HL.out _).mono ?_
      rintro _ w1 ⟨A, cap, rfl, b⟩
      have B1 := Lib.hid b
      clear b HL
      go_wp2_with fail
      refine (awake_any _).mono ?_
      rintro _ w3 ⟨rfl, b⟩
      have B3 := Lib.hid (below_step B1.out b)
      clear b
      go_wp2_with fail
      go_ret
      exact ⟨rfl, B3.out⟩
    | none =>
      have HL := Lib.hid (lall_ok (s := s) (ts := ts) hr (by omega))
      have nn : ((ts.length : Int) != (ts.length : Int)) = false := bne_self_eq_false _
      obtain ⟨ka1, ka2⟩ := PLex.all_blanks ts 0 hl
      obtain ⟨kb1, kb2⟩ := PLex.all_lines' ts hl
      have la : (PLex.blanks ts).length ≤ 1200 := by rw [PLex.blanks_len]; omega
      have lb : (PLex.linesOf ts).length ≤ 6600 := by rw [PLex.lines_len]; omega
      obtain ⟨ra, hra⟩ : ∃ r, PLex.all PLex.kindOf 0 (PLex.blanks ts) = r := ⟨_, rfl⟩
      obtain ⟨rb, hrb⟩ : ∃ r, PLex.all PLex.kindOf 0 ([35, 32, 97, 108, 108, 10] ++ PLex.linesOf ts) = r := ⟨_, rfl⟩
      rw [hra] at ka1 ka2
      rw [hrb] at kb1 kb2
      obtain ⟨qa, ta⟩ := ra
      obtain ⟨qb, tb⟩ := rb
      obtain rfl : qa = none := ka1
      obtain rfl : qb = none := kb1
      have lna := PLex.Same.len ka2
      have lnb := PLex.Same.len kb2
      simp only [] at lna lnb
      have HA : Hid (∀ w, Calls Try.prog 9 #[.string ⟨(PLex.blanks ts).toArray⟩] w fun e w' => ∃ A cap, e = .returned (.tuple #[.slice A ts.length cap, .int .i64 0, .int .i64 0]) ∧ SlT w' A ts.length ta ∧ Below w.heap.size w w') := Lib.hid (lna ▸ lall_list hra (by omega))
      have HB : Hid (∀ w, Calls Try.prog 9 #[.string ⟨([35, 32, 97, 108, 108, 10] ++ PLex.linesOf ts).toArray⟩] w fun e w' => ∃ A cap, e = .returned (.tuple #[.slice A ts.length cap, .int .i64 0, .int .i64 0]) ∧ SlT w' A ts.length tb ∧ Below w.heap.size w w') := Lib.hid (lnb ▸ lall_list hrb (by rw [List.length_append]; simp only [List.length_cons, List.length_nil]; omega))
      have KA := Lib.hid ka2
      have KB := Lib.hid kb2
      have LA := Lib.hid la
      have LB := Lib.hid lb
      simp only [] at KA KB
      clear hr ka2 kb2 hra hrb hl hn hn2 la lb
      have LNA := Lib.hid lna
      have LNB := Lib.hid lnb
      clear lna lnb
      go_enter Try.func4, Try.ntmps4
      go_wp2_with fail
      refine (HL.out _).mono ?_
      rintro _ w1 ⟨A, cap, rfl, s1, b⟩
      have S1 := Lib.hid s1
      have B1 := Lib.hid b
      clear b HL s1
      go_wp2_with fail
      go_loopw [6, 7, 38] (fun u v i wr => ∃ (t : Nat) (a b : ByteArray), t ≤ ts.length ∧ i = .int .i64 t ∧ u = .string a ∧ v = .string b ∧ Hid (a.data.toList = PLex.blanks (ts.take t)) ∧ Hid (b.data.toList = [35, 32, 97, 108, 108, 10] ++ PLex.linesOf (ts.take t)) ∧ Hid (Below w1.heap.size w1 wr)) (fun _ _ i _ => ts.length - (intOf i).toNat)
      case atStart => exact ⟨0, _, _, Nat.zero_le _, rfl, rfl, rfl, (show Hid _ from (by rfl)), (show Hid _ from (by rfl)), (show Hid _ from Below.refl _ _)⟩
      case round =>
        obtain ⟨t, ua, ub, ht, rfl, rfl, rfl, HUA, HUB, HW⟩ := hrel
        have ST := S1.out.on HW.out
        by_cases hlt : t < ts.length
        · obtain ⟨b, off, rfl, hc⟩ := ST.at hlt
          obtain ⟨c0, c1, c2⟩ := hc t hlt
          have hsz := World.block_lt_of_cell? wr _ c0
          obtain ⟨x, hx⟩ : ∃ x, ts[t] = x := ⟨_, rfl⟩
          have HX := Lib.hid hx
          rw [hx] at c0 c1 c2
          have na := PLex.blanks_next hlt
          have nb := PLex.lines_next hlt
          rw [hx] at na nb
          have za := congrArg List.length HUA.out
          have zb := congrArg List.length HUB.out
          rw [Array.length_toList] at za zb
          have la1 := PLex.blanks_le ts (t + 1)
          have lb1 := PLex.lines_le ts t
          have la2 := congrArg List.length na
          simp only [List.length_append, List.length_cons, List.length_nil] at zb la2
          have la3 := LA.out
          have lb3 := LB.out
          have s1 : ua.size ≤ 1200 := by show ua.data.size ≤ 1200; omega
          have s2 : ub.size ≤ 6606 := by show ub.data.size ≤ 6606; omega
          have s3 : x.text.length ≤ 1200 := by omega
          have NA : Hid ((ua ++ ({ data := x.text.toArray } ++ { data := #[32] })).data.toList = PLex.blanks (ts.take (t + 1))) := Lib.hid (by
            rw [na, ByteArray.data_append, ByteArray.data_append, Array.toList_append, Array.toList_append, HUA.out, List.append_assoc])
          have NB : Hid ((ub ++ ({ data := #[10, 32, 32] } ++ { data := x.text.toArray } ++ { data := #[32, 35, 32, 61, 32, 63, 10] })).data.toList = [35, 32, 97, 108, 108, 10] ++ PLex.linesOf (ts.take (t + 1))) := Lib.hid (by
            rw [nb, ByteArray.data_append, ByteArray.data_append, ByteArray.data_append, Array.toList_append, Array.toList_append, Array.toList_append, HUB.out, List.append_assoc]; rfl)
          clear hc ST hx na nb za zb la1 lb1 la2 la3 lb3
          go_wp2_with fail
          exact ⟨⟨t + 1, _, _, by omega, rfl, rfl, rfl, NA, NB, Lib.hid (HW.out.alloc HW.out.size _)⟩, by simp [intOf]; omega⟩
        · obtain rfl : t = ts.length := by omega
          have ea := HUA.out
          have eb := HUB.out
          rw [List.take_length] at ea eb
          obtain rfl := text_eq ea
          obtain rfl := text_eq eb
          have S2 := Lib.hid ST
          have B2 := Lib.hid (below_step B1.out HW.out)
          clear ST ea eb HUA HUB S1 B1 HW
          go_wp2_with fail
          refine (HA.out _).mono ?_
          rintro _ w3 ⟨A3, cap3, rfl, s3, b⟩
          have S3 := Lib.hid s3
          have S2' := Lib.hid (S2.out.on b)
          have B3 := Lib.hid (below_step B2.out b)
          clear b HA s3 S2 B2
          go_wp2_with fail
          refine (HB.out _).mono ?_
          rintro _ w4 ⟨A4, cap4, rfl, s4, b⟩
          have S4 := Lib.hid s4
          have SS := Lib.hid (S2'.out.on b)
          have S3' := Lib.hid (S3.out.on b)
          have B4 := Lib.hid (below_step B3.out b)
          clear b HB s4 S2' B3 S3
          go_wp2_with fail
          clear nn LA LB
          go_loopw [88] (fun i wr => ∃ (t : Nat), t ≤ ts.length ∧ i = .int .i64 t ∧ Hid (Below w4.heap.size w4 wr)) (fun i _ => ts.length - (intOf i).toNat)
          case atStart => exact ⟨0, Nat.zero_le _, rfl, (show Hid _ from Below.refl _ _)⟩
          case round =>
            obtain ⟨t, ht, rfl, HW⟩ := hrel
            have s0 := SS.out.on HW.out
            have s1 := S3'.out.on HW.out
            have s2 := S4.out.on HW.out
            by_cases hlt : t < ts.length
            · obtain ⟨b, off, rfl, hc⟩ := s0.at hlt
              obtain ⟨b1, off1, rfl, hc1⟩ := s1.at hlt
              obtain ⟨b2, off2, rfl, hc2⟩ := s2.at hlt
              obtain ⟨c0, c1, c2⟩ := hc t hlt
              obtain ⟨d0, d1, d2⟩ := hc1 t (by rw [LNA.out]; exact hlt)
              obtain ⟨e0, e1, e2⟩ := hc2 t (by rw [LNB.out]; exact hlt)
              obtain ⟨k1, k2⟩ := PLex.Same.at KA.out (show t < ta.length by rw [LNA.out]; exact hlt) hlt
              obtain ⟨k3, k4⟩ := PLex.Same.at KB.out (show t < tb.length by rw [LNB.out]; exact hlt) hlt
              rw [k1] at d0; rw [k2] at d1; rw [k3] at e0; rw [k4] at e1
              have hsz := World.block_lt_of_cell? wr _ c0
              have hsz1 := World.block_lt_of_cell? wr _ d0
              have hsz2 := World.block_lt_of_cell? wr _ e0
              generalize ts[t] = x at *
              clear k1 k2 k3 k4 d2 e2 hc hc1 hc2 s0 s1 s2
              go_wp2_with fail
              go_big_quiet (fail)
              go_wp2_with fail
              exact ⟨⟨t + 1, by omega, rfl, Lib.hid (below_drewT (HW.out.alloc HW.out.size _) _)⟩, by simp [intOf]; omega⟩
            · obtain rfl : t = ts.length := by omega
              have B5 := Lib.hid (below_step B4.out HW.out)
              clear s0 s1 s2
              go_wp2_with fail
              refine (awake_any _).mono ?_
              rintro _ w3 ⟨rfl, b⟩
              have B6 := Lib.hid (below_step B5.out b)
              clear b
              go_wp2_with fail
              go_ret
              exact ⟨rfl, B6.out⟩
end Go.Proofs.Ytiniiopapkkimaa
