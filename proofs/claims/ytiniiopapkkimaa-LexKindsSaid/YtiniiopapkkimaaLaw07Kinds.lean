/-
  LexKinds: a token's kind is told by its text alone: of letters first it is a Word, of digits first a number, and of no more than twelve bytes a Word.
-/
import Derived.Test.YtiniiopapkkimaaLaw07Awake
import Derived.Deep.QuietTactic
import Derived.BigQuiet
import Derived.Handy
namespace PLex
theorem kindOf_run (l : List UInt8) : kindOf l ≠ 1 ∧ kindOf l ≠ 5 := by
  unfold kindOf; (repeat' split) <;> exact ⟨by omega, by omega⟩
theorem let_dig {c : UInt8} (h : isLet c = true) : isDig c = false := by
  unfold isLet at h; unfold isDig; simp at h ⊢; omega
theorem Lone.kinds {k : Nat} {u : List UInt8} (h : Lone kindOf k u) : ∃ c r, u = c :: r ∧
    ((k = 1 ∧ isLet c = true ∧ u.length ≤ 12) ∨ (k = 5 ∧ isLet c = false ∧ isDig c = false) ∨ (k ≠ 1 ∧ k ≠ 5 ∧ isLet c = false ∧ isDig c = true)) := by
  obtain ⟨c, r, rfl, h1, ⟨h2, h3⟩, h4⟩ := h
  refine ⟨c, r, rfl, ?_⟩
  have e1 : (step kindOf (c :: r)).1 = k := by rw [h1]
  have e2 : (step kindOf (c :: r)).2 = (c :: r).length := by rw [h1]
  simp only [step] at e1 e2
  by_cases g1 : c = 32 ∨ c = 10
  · rw [if_pos g1] at e1; exact absurd e1.symm h3
  rw [if_neg g1, if_neg h4] at e1 e2
  by_cases g2 : isLet c = true
  · rw [if_pos g2] at e1 e2
    simp only [] at e1 e2
    by_cases g3 : 1 + (r.takeWhile isAl).length < 13
    · rw [if_pos g3] at e1
      exact .inl ⟨e1.symm, g2, by omega⟩
    · rw [if_neg g3] at e1; exact absurd e1.symm h2
  rw [if_neg g2] at e1 e2
  by_cases g4 : isDig c = true
  · rw [if_pos g4] at e1
    have := kindOf_run (c :: r.takeWhile isRun)
    simp only [] at e1
    exact .inr (.inr ⟨by rw [← e1]; exact this.1, by rw [← e1]; exact this.2, by simpa using g2, g4⟩)
  rw [if_neg g4] at e1
  by_cases g5 : isSgn c = true
  · rw [if_pos g5] at e1
    exact .inr (.inl ⟨e1.symm, by simpa using g2, by simpa using g4⟩)
  · rw [if_neg g5] at e1; exact absurd e1.symm h2
end PLex
namespace Go.Proofs.Ytiniiopapkkimaa
open Go.RowKit

set_option maxHeartbeats 3200000 in
set_option maxRecDepth 100000 in
theorem lkinds_walk (s : ByteArray) (w : World) (hm : s.size ≤ maxLen) :
    Calls Try.prog 7 #[.string s] w fun e w' => e = .returned (.bool true) ∧ Below w.heap.size w w' := by
  unfold maxLen at hm
  by_cases hs : 600 < s.size
  · have hs' : (600 : Int) < (s.size : Int) := by omega
    go_enter Try.func7, Try.ntmps7
    go_wp2_with fail
    refine (awake_any _).mono ?_
    rintro _ w1 ⟨rfl, b⟩
    have B := Lib.hid b
    clear b
    go_wp2_with fail
    go_ret
    exact ⟨rfl, B.out⟩
  · have hs' : ¬ (600 : Int) < (s.size : Int) := by omega
    obtain ⟨r, hr⟩ : ∃ r, PLex.all PLex.kindOf 0 s.data.toList = r := ⟨_, rfl⟩
    obtain ⟨q, ts⟩ := r
    obtain ⟨hl, hn, hn2⟩ := lex_facts hr
    have hts : ts.length ≤ 600 := by omega
    cases q with
    | some q =>
      have HL := Lib.hid (lall_bad (s := s) (q := q) (by rw [hr]) (by omega))
      clear hr hl hn hn2
      go_enter Try.func7, Try.ntmps7
      go_wp2_with fail
      refine (HL.out _).mono ?_
      rintro _ w1 ⟨A, cap, rfl, b⟩
      have B1 := Lib.hid b
      clear b HL
      go_wp2_with fail
      refine (awake_any _).mono ?_
      rintro _ w3 ⟨rfl, b⟩
      have B3 := Lib.hid (below_step B1.out b)
      clear b
      go_wp2_with fail
      go_ret
      exact ⟨rfl, B3.out⟩
    | none =>
      have HL := Lib.hid (lall_ok (s := s) (ts := ts) hr (by omega))
      have HK : Hid (∀ (t : Nat) (h : t < ts.length), PLex.Lone PLex.kindOf ts[t].kind ts[t].text ∧ ts[t].text.length ≤ 1200) := Lib.hid (fun t h => ⟨hl _ (List.getElem_mem h), by
        have h2 := PLex.blanks_le ts (t + 1)
        have h3 := congrArg List.length (PLex.blanks_next h)
        rw [PLex.blanks_len ts] at h2
        simp only [List.length_append, List.length_cons, List.length_nil] at h3
        omega⟩)
      clear hr hl hn hn2
      go_enter Try.func7, Try.ntmps7
      go_wp2_with fail
      refine (HL.out _).mono ?_
      rintro _ w1 ⟨A, cap, rfl, s1, b⟩
      have S1 := Lib.hid s1
      have B1 := Lib.hid b
      clear b HL s1
      go_wp2_with fail
      go_loopw [32] (fun i wr => ∃ (t : Nat), t ≤ ts.length ∧ i = .int .i64 t ∧ Hid (Below w1.heap.size w1 wr)) (fun i _ => ts.length - (intOf i).toNat)
      case atStart => exact ⟨0, Nat.zero_le _, rfl, (show Hid _ from Below.refl _ _)⟩
      case round =>
        obtain ⟨t, ht, rfl, HW⟩ := hrel
        have ST := S1.out.on HW.out
        by_cases hlt : t < ts.length
        · obtain ⟨b, off, rfl, hc⟩ := ST.at hlt
          obtain ⟨c0, c1, c2⟩ := hc t hlt
          obtain ⟨lone, hlen⟩ := HK.out t hlt
          obtain ⟨x, hx⟩ : ∃ x, ts[t] = x := ⟨_, rfl⟩
          rw [hx] at c0 c1 c2 lone hlen
          have hsz := World.block_lt_of_cell? wr _ c0
          obtain ⟨K, hK⟩ : ∃ K, x.kind = K := ⟨_, rfl⟩
          obtain ⟨u, hu⟩ : ∃ u, ({ data := x.text.toArray } : ByteArray) = u := ⟨_, rfl⟩
          rw [hu] at c1; rw [hK] at c0 lone
          have hut : u.data.toList = x.text := by rw [← hu]
          have hus : u.size = x.text.length := by rw [← hu]; show x.text.toArray.size = _; rw [List.size_toArray]
          have C1 : Hid (∀ w, Calls Try.prog 9 #[.string u] w fun e w' => ∃ A cap, e = .returned (.tuple #[.slice A 1 cap, .int .i64 0, .int .i64 0]) ∧ SlT w' A 1 [⟨K, x.text, 0⟩] ∧ Below w.heap.size w w') := Lib.hid (fun w => by
            have := lall_ok (s := u) (ts := [⟨K, x.text, 0⟩]) (by rw [hut]; exact PLex.all_self lone 0) (by omega) w
            exact this)
          obtain ⟨ch, rest, hcr, hkind⟩ := lone.kinds
          have hu0 : 0 < u.size := by rw [hus, hcr]; simp
          have hch : u[0] = ch := by
            have : u.data.toList[0]? = some ch := by rw [hut, hcr]; rfl
            rw [Array.getElem?_toList, Array.getElem?_eq_getElem hu0] at this
            exact Option.some.inj this
          have d3 : u.toList.isEmpty = false := by rw [ByteArray.toList_eq, hut, hcr]; rfl
          rw [← hus] at hkind
          have HKI := Lib.hid hkind
          have HXT := Lib.hid hu
          clear hc ST hx lone hcr hkind hut hK hu
          go_wp2_with fail
          refine (C1.out _).mono ?_
          rintro _ w3 ⟨A3, cap3, rfl, s3, b3⟩
          obtain ⟨b4, off4, rfl, h4⟩ := s3.at (i := 0) (by omega)
          obtain ⟨d0, d1, d2⟩ := h4 0 (by simp)
          simp only [List.getElem_cons_zero] at d0 d1 d2
          rw [HXT.out] at d1
          simp only [Nat.zero_mul, Nat.add_zero] at d0 d1 d2
          have g0 : w3.cell? ⟨wr.heap.size, 0, none⟩ = some (.int .i64 K) := (b3.cell (by simp)).trans (by go_simp)
          have g1 : w3.cell? ⟨wr.heap.size, 1, none⟩ = some (.string u) := (b3.cell (by simp)).trans (by go_simp)
          have B3 := Lib.hid (below_step HW.out (below_step ((Below.refl _ _).alloc (Nat.le_refl _) _) b3))
          have hsz3 := World.block_lt_of_cell? w3 _ d0
          have hsz4 := World.block_lt_of_cell? w3 _ g0
          obtain ⟨L, hL⟩ : ∃ L, L = wr.heap.size := ⟨_, rfl⟩
          rw [← hL] at g0 g1 hsz4 ⊢
          clear h4 s3 b3 c0 c1 c2 hL HXT C1 hsz HW
          go_wp2_with fail
          go_big_quiet (fail)
          have g0' : (w3.drewN nq).cell? ⟨L, 0, none⟩ = some (.int .i64 K) := g0
          have g1' : (w3.drewN nq).cell? ⟨L, 1, none⟩ = some (.string u) := g1
          have B4 := Lib.hid (below_drewT B3.out nq)
          have hsz5 := World.block_lt_of_cell? _ _ g0'
          clear d0 d1 d2 g0 g1 hsz3 hsz4 B3
          generalize w3.drewN nq = w4 at *
          go_upto_region 13 with fail
          have hk := HKI.out
          unfold PLex.isLet PLex.isDig at hk
          simp only [Bool.and_eq_true, Bool.and_eq_false_iff, decide_eq_true_eq, decide_eq_false_iff_not] at hk
          obtain ⟨v, hv⟩ : ∃ v, ch.toNat = v := ⟨_, rfl⟩
          have hv2 : v ≤ 255 := by have := ch.toNat_lt; omega
          (try rw [hch])
          rw [hv]
          rw [hv] at hk
          clear HKI d3 hus hch hv hu0 hlen
          rcases hk with ⟨h1, ⟨h2, h3⟩, h4⟩ | ⟨h1, h2, h3⟩ | ⟨h1, h2, h3, h4, h5⟩
          · have e1 : ((K : Int) == 1) = true := by rw [beq_iff_eq]; omega
            have e5 : ((K : Int) == 5) = false := by rw [beq_eq_false_iff_ne]; omega
            have m1 : (97 : Int) ≤ (v : Int) := by omega
            have m2 : (v : Int) ≤ 122 := by omega
            have m3 : ¬ (12 : Int) < (u.size : Int) := by omega
            clear h1 h2 h3 h4
            go_wp2_with fail
            all_goals (first | exact ⟨⟨t + 1, by omega, rfl, B4⟩, by simp [intOf]; omega⟩ | (exfalso; omega))
          · have e1 : ((K : Int) == 1) = false := by rw [beq_eq_false_iff_ne]; omega
            have e5 : ((K : Int) == 5) = true := by rw [beq_iff_eq]; omega
            clear h1
            go_wp2_with fail
            all_goals (first | exact ⟨⟨t + 1, by omega, rfl, B4⟩, by simp [intOf]; omega⟩ | (exfalso; omega))
          · have e1 : ((K : Int) == 1) = false := by rw [beq_eq_false_iff_ne]; omega
            have e5 : ((K : Int) == 5) = false := by rw [beq_eq_false_iff_ne]; omega
            have m1 : ¬ (97 : Int) ≤ (v : Int) := by omega
            have m3 : (48 : Int) ≤ (v : Int) := by omega
            have m4 : (v : Int) ≤ 57 := by omega
            clear h1 h2 h3 h4 h5
            go_wp2_with fail
            all_goals (first | exact ⟨⟨t + 1, by omega, rfl, B4⟩, by simp [intOf]; omega⟩ | (exfalso; omega))
        · obtain rfl : t = ts.length := by omega
          have B2 := Lib.hid (below_step B1.out HW.out)
          clear ST
          go_wp2_with fail
          refine (awake_any _).mono ?_
          rintro _ w3 ⟨rfl, b⟩
          have B6 := Lib.hid (below_step B2.out b)
          clear b
          go_wp2_with fail
          go_ret
          exact ⟨rfl, B6.out⟩
end Go.Proofs.Ytiniiopapkkimaa
