/-
  TreeBlanks: tokens, one blank apart, make the same program.
-/
import Derived.Test.YtjcfgdldmgmiaaaDoorLaw08Same
import Derived.Test.YtjcfgdldmgmiaaaDoorTreeSame
import Derived.Deep.RegionHeld3
namespace PTree
open PLex (Tok Same)
theorem rules_few (en : Nat) : ∀ (n c : Nat) (ts : List Tok), ts.length ≤ n → Few ts.length (fun rs => sizeOf rs + rs.length) (rules en c ts)
  | _, c, [], _ => by rw [rules_nil]; exact .ok (by simp [sizeOf])
  | 0, _, t :: ts, h => by simp at h
  | n + 1, c, t :: ts, h => by
    rw [rules_cons]
    by_cases h1 : textOf (t :: ts) ∉ kinds
    · rw [if_pos h1]; exact .bad
    rw [if_neg h1]
    by_cases h2 : 59 < c
    · rw [if_pos h2]; exact .bad
    rw [if_neg h2]
    cases ts with
    | nil => exact .bad
    | cons m r =>
      simp only []
      by_cases h3 : m.kind ≠ 1 ∨ m.text ∈ takenL
      · rw [if_pos h3]; exact .bad
      rw [if_neg h3]
      have hl : r.length + 2 ≤ n + 1 := by simpa using h
      refine (must_few (List.cons_ne_nil _ _) r).next fun t1 _ k1 => (ex_few en .whole 1 t1).next fun t2 x k2 => (must_few (List.cons_ne_nil _ _) t2).next fun t3 _ k3 => ?_
      simp only [Md.sz] at k2
      have hl3 : t3.length ≤ n := by omega
      refine (rules_few en n (c + 1) t3 hl3).next fun t4 rs k4 => .ok ?_
      simp only [sizeOf, List.map_cons, List.sum_cons, List.length_cons] at k4 ⊢
      omega
theorem rules_good (en : Nat) : ∀ (n c : Nat) (ts : List Tok), ts.length ≤ n → Good 0 ts.length (rules en c ts)
  | _, c, [], _ => by rw [rules_nil]; exact ⟨_, rfl, fun ts a e => by cases e; exact Nat.le_refl _⟩
  | 0, _, t :: ts, h => by simp at h
  | n + 1, c, t :: ts, h => by
    rw [rules_cons]
    by_cases h1 : textOf (t :: ts) ∉ kinds
    · rw [if_pos h1]; exact ⟨_, rfl, fun ts a e => by cases e⟩
    rw [if_neg h1]
    by_cases h2 : 59 < c
    · rw [if_pos h2]; exact ⟨_, rfl, fun ts a e => by cases e⟩
    rw [if_neg h2]
    cases ts with
    | nil => exact ⟨_, rfl, fun ts a e => by cases e⟩
    | cons m r =>
      simp only []
      by_cases h3 : m.kind ≠ 1 ∨ m.text ∈ takenL
      · rw [if_pos h3]; exact ⟨_, rfl, fun ts a e => by cases e⟩
      rw [if_neg h3]
      have hl : r.length + 2 ≤ n + 1 := by simpa using h
      refine (must_good (List.cons_ne_nil _ _) r).next fun t1 _ k1 => (ex_good en .whole 1 t1).next fun t2 x k2 => (must_good (List.cons_ne_nil _ _) t2).next fun t3 _ k3 => ?_
      have hl3 : t3.length ≤ n := by omega
      refine (rules_good en n (c + 1) t3 hl3).next fun t4 rs k4 => ⟨_, rfl, fun ts a e => by cases e; simp only [List.length_cons]; omega⟩
theorem parse_is (s : List UInt8) : ∃ r, parse s = some r := by
  unfold parse
  obtain ⟨r, hr⟩ : ∃ r, PLex.all PLex.kindOf 0 s = r := ⟨_, rfl⟩
  obtain ⟨q, ts⟩ := r
  rw [hr]
  cases q with
  | some q => exact ⟨_, rfl⟩
  | none => obtain ⟨r, e, _⟩ := rules_good s.length ts.length 0 ts (Nat.le_refl _); exact ⟨r, e⟩
theorem parse_few {s : List UInt8} {t : List Tok} {rs : List Rl} (h : parse s = some (.ok t rs)) (hs : s.length ≤ 4000) : sizeOf rs + rs.length ≤ 4000 := by
  unfold parse at h
  obtain ⟨r, hr⟩ : ∃ r, PLex.all PLex.kindOf 0 s = r := ⟨_, rfl⟩
  obtain ⟨q, ts⟩ := r
  rw [hr] at h
  cases q with
  | some q => cases h
  | none =>
    have h1 := (toks_of hr hs).2
    have h2 := rules_few s.length ts.length 0 ts (Nat.le_refl _) _ _ h
    simp only [] at h2
    omega
theorem wideOf_len : ∀ (l : List Tok), (wideOf l).length = (l.map (fun x => x.text.length)).sum + 2 * l.length
  | [] => rfl
  | x :: l => by
    have e : wideOf (x :: l) = 32 :: (x.text ++ 10 :: wideOf l) := by simp [wideOf]
    rw [e]
    simp only [List.length_cons, List.length_append, List.map_cons, List.sum_cons, wideOf_len l]
    omega
theorem wide_few {l : List UInt8} {ts : List Tok} (hq : PLex.all PLex.kindOf 0 l = (none, ts)) (hs : l.length ≤ 500) : (wideOf ts).length ≤ 1500 ∧ ts.length ≤ 500 := by
  have hl := PLex.all_lone (K := PLex.kindOf) l.length 0 l (Nat.le_refl _)
  have hn := PLex.all_sum (K := PLex.kindOf) l.length 0 l (Nat.le_refl _)
  rw [hq] at hl hn
  have hn' : (ts.map (fun x => x.text.length)).sum ≤ l.length := hn
  have h2 : ts.length ≤ (ts.map (fun x => x.text.length)).sum := PLex.sum_len (fun x hx => (hl x hx).ne)
  rw [wideOf_len]
  exact ⟨by omega, by omega⟩
theorem wideOf_take (l : List Tok) (i : Nat) : (wideOf (l.take i)).length ≤ (wideOf l).length := by
  rw [wideOf_len, wideOf_len, List.map_take]
  have h1 : ((l.map (fun x => x.text.length)).take i).sum ≤ (l.map (fun x => x.text.length)).sum := by
    have e : (l.map (fun x => x.text.length)).sum = ((l.map (fun x => x.text.length)).take i).sum + ((l.map (fun x => x.text.length)).drop i).sum := by rw [← List.sum_append, List.take_append_drop]
    omega
  have h2 : (l.take i).length ≤ l.length := by rw [List.length_take]; omega
  omega
end PTree
namespace Go.Proofs.YtjcfgdldmgmiaaaDoor
open Go.RowKit
open PTree (R Ex Tr Rl Row)

/-- What tree.Parse answers: rows and an error's kind. -/
def RowsAns (rows : List Row) (exs : List Ex) (k : Nat) (w : World) (e : Ending) (w' : World) : Prop :=
  ∃ A ca B cb, ∃ q : Int, e = .returned (.tuple #[.agg #[.slice A rows.length ca, .slice B exs.length cb], .int .i64 q, .int .i64 k]) ∧ SlX rowR w' A rows.length rows ∧ SlX exR w' B exs.length exs ∧ Below w.heap.size w w'
theorem rows_ans {s : ByteArray} {t : List PLex.Tok} {rs : List Rl} (h : PTree.parse s.data.toList = some (.ok t rs)) (hs : s.size ≤ 4000) (w : World) :
    Calls Tryd.prog 11 #[.string s] w (RowsAns (PTree.rowsOf 0 rs) (PTree.exprsOf 0 rs) 0 w) := by
  refine (tparse_ok h hs w).mono ?_
  rintro e w' ⟨A, ca, B, cb, rfl, h1, h2, hb⟩
  refine ⟨A, ca, B, cb, 0, ?_, ?_, ?_, hb⟩
  · rw [PTree.rowsOf_len, PTree.exprsOf_len]; rfl
  · rw [PTree.rowsOf_len]; exact h1
  · rw [PTree.exprsOf_len]; exact h2
theorem rows_bad {s : ByteArray} {k q : Nat} (h : PTree.parse s.data.toList = some (.bad k q)) (hs : s.size ≤ 4000) (w : World) :
    Calls Tryd.prog 11 #[.string s] w (RowsAns [] [] k w) := by
  refine (tparse_bad h hs w).mono ?_
  rintro e w' ⟨rfl, hb⟩
  exact ⟨none, 0, none, 0, (q : Int), rfl, slr_nil _ _ _, slr_nil _ _ _, hb⟩
theorem rows_two {s u : ByteArray} (h : PTree.Rel (PTree.parse s.data.toList) (PTree.parse u.data.toList)) (hs : s.size ≤ 4000) (hu : u.size ≤ 4000) :
    ∃ (rows : List Row) (exs : List Ex) (k : Nat), rows.length ≤ 4000 ∧ exs.length ≤ 4000 ∧ (∀ w, Calls Tryd.prog 11 #[.string s] w (RowsAns rows exs k w)) ∧ ∀ w, Calls Tryd.prog 11 #[.string u] w (RowsAns rows exs k w) := by
  obtain ⟨x, hx⟩ : ∃ x, PTree.parse s.data.toList = x := ⟨_, rfl⟩
  obtain ⟨y, hy⟩ : ∃ y, PTree.parse u.data.toList = y := ⟨_, rfl⟩
  rw [hx, hy] at h
  match x, y, h with
  | some (.bad k q), some (.bad k' q'), h =>
    obtain rfl : k = k' := h
    exact ⟨[], [], k, by decide, by decide, rows_bad hx hs, rows_bad hy hu⟩
  | some (.ok ts rs), some (.ok us rs'), h =>
    obtain ⟨_, rfl⟩ := h
    have hf := PTree.parse_few hx (by rw [Array.length_toList]; exact hs)
    refine ⟨_, _, 0, ?_, ?_, rows_ans hx hs, rows_ans hy hu⟩
    · rw [PTree.rowsOf_len]; omega
    · rw [PTree.exprsOf_len]; omega
  | none, none, _ =>
    exact absurd hx (by obtain ⟨r, hr⟩ := PTree.parse_is s.data.toList; rw [hr]; exact fun k => by cases k)
theorem keep22 {w w' : World} {p0 p1 p2 p3 : Addr} {a b c d : Value} (hb : Below w.heap.size w w') (h : (w.cell? p0 = some a ∧ w.cell? p1 = some b) ∧ w.cell? p2 = some c ∧ w.cell? p3 = some d) :
    (w'.cell? p0 = some a ∧ w'.cell? p1 = some b) ∧ w'.cell? p2 = some c ∧ w'.cell? p3 = some d :=
  ⟨⟨(hb.cell (World.block_lt_of_cell? w _ h.1.1)).trans h.1.1, (hb.cell (World.block_lt_of_cell? w _ h.1.2)).trans h.1.2⟩, (hb.cell (World.block_lt_of_cell? w _ h.2.1)).trans h.2.1, (hb.cell (World.block_lt_of_cell? w _ h.2.2)).trans h.2.2⟩
set_option maxRecDepth 100000 in
set_option maxHeartbeats 6400000 in
theorem tblanks_walk (s : ByteArray) (w : World) (hs : s.size ≤ maxLen) :
    Calls Tryd.prog 5 #[.string s] w fun e w' => e = .returned (.bool true) ∧ Below w.heap.size w w' := by
  unfold maxLen at hs
  by_cases h6 : 500 < s.size
  · have hl : (500 : Int) < (s.size : Int) := by omega
    go_enter Tryd.func5, Tryd.ntmps5
    go_wp2_with fail
    refine (awake_any _).mono ?_
    rintro _ w1 ⟨rfl, b⟩
    have B := Lib.hid b
    clear b
    go_wp2_with fail
    go_ret
    exact ⟨rfl, B.out⟩
  · have hl : ¬ (500 : Int) < (s.size : Int) := by omega
    obtain ⟨r, hr⟩ : ∃ r, PLex.all PLex.kindOf 0 s.data.toList = r := ⟨_, rfl⟩
    obtain ⟨bad, ts⟩ := r
    cases bad with
    | some q =>
      have HL := Lib.hid (fun w => (lall_any s w (by omega)).mono fun _ _ h => h.bad (q := q) (by rw [hr]))
      clear hr
      go_enter Tryd.func5, Tryd.ntmps5
      go_wp2_with fail
      refine (HL.out _).mono ?_
      rintro _ w1 ⟨A, cap, rfl, b⟩
      have B := Lib.hid b
      clear b HL
      go_wp2_with fail
      refine (awake_any _).mono ?_
      rintro _ w2 ⟨rfl, b⟩
      have B2 := Lib.hid (below_step B.out b)
      clear b
      go_wp2_with fail
      go_ret
      exact ⟨rfl, B2.out⟩
    | none =>
      obtain ⟨hw1, hw2⟩ := PTree.wide_few hr (by rw [Array.length_toList]; show s.size ≤ 500; omega)
      have HW := Lib.hid hw1
      have HP := Lib.hid (PTree.parse_wide hr)
      have HL := Lib.hid (fun w => (lall_any s w (by omega)).mono fun _ _ h => by rw [hr] at h; exact h.ok rfl)
      simp only [] at HL
      clear hr hw1
      go_enter Tryd.func5, Tryd.ntmps5
      go_wp2_with fail
      refine (HL.out _).mono ?_
      rintro _ w1 ⟨A, cap, rfl, s1, b⟩
      have S1 := Lib.hid s1
      have B1 := Lib.hid b
      clear b HL s1
      go_wp2_with fail
      go_loopw [6, 35] (fun x i wr => ∃ (t : Nat) (y : ByteArray), t ≤ ts.length ∧ i = .int .i64 t ∧ x = .string y ∧ Hid (y.data.toList = PTree.wideOf (ts.take t)) ∧ Hid (Below w1.heap.size w1 wr)) (fun _ i _ => ts.length - (intOf i).toNat)
      case atStart => exact ⟨0, { data := #[] }, Nat.zero_le _, rfl, rfl, Lib.hid rfl, Lib.hid (Below.refl _ _)⟩
      case round =>
        obtain ⟨t, y, ht, rfl, rfl, HY, HB⟩ := hrel
        by_cases hlt : t < ts.length
        · have ST := S1.out.on HB.out
          obtain ⟨b, off, rfl, hc⟩ := ST.at hlt
          obtain ⟨c0, c1, c2⟩ := hc t hlt
          have hsz := World.block_lt_of_cell? wr _ c0
          have hty : ts.take (t + 1) = ts.take t ++ [ts[t]] := List.take_succ_eq_append_getElem hlt
          have HT := Lib.hid hty
          obtain ⟨z, hz⟩ : ∃ z, ts[t] = z := ⟨_, rfl⟩
          rw [hz] at c0 c1 c2 HT
          obtain ⟨u, hu⟩ : ∃ b, ({ data := z.text.toArray } : ByteArray) = b := ⟨_, rfl⟩
          have hul : Hid (u.data.toList = z.text) := Lib.hid (by rw [← hu])
          rw [hu] at c1
          obtain ⟨w2, hw2, YB, b2⟩ : ∃ w2, wr.alloc (.cells #[.int .i64 z.kind, .string u, .int .i64 z.at_] 48) = w2 ∧ Box w2 wr.heap.size [.int .i64 z.kind, .string u, .int .i64 z.at_] ∧ Below wr.heap.size wr w2 := ⟨_, rfl, Box.new _ _ [.int .i64 z.kind, .string u, .int .i64 z.at_], (Below.refl _ _).alloc (Nat.le_refl _) _⟩
          have HY2 : Hid ((y ++ (({ data := #[32] } ++ u ++ { data := #[10] } : ByteArray))).data.toList = PTree.wideOf (ts.take (t + 1))) := Lib.hid (by
            rw [HT.out, PTree.wideOf_snoc, ← HY.out, ← hul.out]; simp)
          have gz : y.size + (1 + u.size + 1) ≤ 1500 := by
            have h := PTree.wideOf_take ts (t + 1)
            rw [← HY2.out] at h
            have h2 := HW.out
            rw [Array.length_toList] at h
            have h3 : (y ++ (({ data := #[32] } ++ u ++ { data := #[10] } : ByteArray))).size ≤ 1500 := Nat.le_trans h h2
            rw [ByteArray.size_append, ByteArray.size_append, ByteArray.size_append] at h3
            exact h3
          obtain ⟨y0, y1, y2⟩ := box3 YB
          have hs2 := YB.1
          have HB2 := Lib.hid (below_step HB.out b2)
          have HW2 := Lib.hid hw2
          clear hc ST hty hz hu YB b2 hw2 HB HY HT hul
          have g1 : ¬ 9223372036854775807 < 1 + u.size := by omega
          have g2 : ¬ 9223372036854775807 < 1 + u.size + 1 := by omega
          have g3 : ¬ 9223372036854775807 < y.size + (1 + u.size + 1) := by omega
          go_upto_region 10 with fail
          rw [HW2.out]
          clear HW2
          go_wp2_with fail
          exact ⟨⟨t + 1, _, by omega, rfl, rfl, HY2, HB2⟩, by simp [intOf]; omega⟩
        · obtain rfl : t = ts.length := by omega
          obtain ⟨wo, hwo⟩ : ∃ wo, wo = wr := ⟨_, rfl⟩
          subst hwo
          have hy : y.data.toList = PTree.wideOf ts := by rw [HY.out, List.take_length]
          have hys : y.size ≤ 4000 := by show y.data.size ≤ 4000; rw [← Array.length_toList, hy]; have := HW.out; omega
          obtain ⟨rows, exs, k, hr, he, P1, P2⟩ := rows_two (s := s) (u := y) (by rw [hy]; exact HP.out) (by omega) hys
          have P1 := Lib.hid P1; have P2 := Lib.hid P2
          have HR := Lib.hid hr; have HE := Lib.hid he
          have kk : ((k : Int) == (k : Int)) = true := beq_self_eq_true _
          have B2 := Lib.hid (below_step B1.out HB.out)
          clear hy hys hr he HB HY HP HW S1 B1 hw2 ht hlt
          go_wp2_with fail
          refine (P1.out _).mono ?_
          rintro _ w3 ⟨A1, ca1, B1, cb1, q1, rfl, s1, s2, b3⟩
          obtain ⟨w4, hw4, PB, b4⟩ : ∃ w4, w3.alloc (.cells #[.slice A1 rows.length ca1, .slice B1 exs.length cb1] 26) = w4 ∧ Box w4 w3.heap.size [.slice A1 rows.length ca1, .slice B1 exs.length cb1] ∧ Below w3.heap.size w3 w4 := ⟨_, rfl, Box.new _ _ [.slice A1 rows.length ca1, .slice B1 exs.length cb1], (Below.refl _ _).alloc (Nat.le_refl _) _⟩
          have S1 := Lib.hid (s1.on b4); have S2 := Lib.hid (s2.on b4)
          have B4 := Lib.hid (below_step (below_step B2.out b3) b4)
          have PB := Lib.hid PB
          have HW4 := Lib.hid hw4
          obtain ⟨G, hG⟩ : ∃ G, w3.heap.size = G := ⟨_, rfl⟩
          rw [hG] at PB
          have HG := Lib.hid hG
          clear s1 s2 b3 b4 hw4 hG P1 B2
          go_upto_region 13 with fail
          rw [HW4.out]
          (try rw [HG.out])
          clear HW4 HG
          go_wp2_with fail
          refine (P2.out _).mono ?_
          rintro _ w5 ⟨A2, ca2, B2, cb2, q2, rfl, s3, s4, b5⟩
          obtain ⟨w6, hw6, QB, b6⟩ : ∃ w6, w5.alloc (.cells #[.slice A2 rows.length ca2, .slice B2 exs.length cb2] 26) = w6 ∧ Box w6 w5.heap.size [.slice A2 rows.length ca2, .slice B2 exs.length cb2] ∧ Below w5.heap.size w5 w6 := ⟨_, rfl, Box.new _ _ [.slice A2 rows.length ca2, .slice B2 exs.length cb2], (Below.refl _ _).alloc (Nat.le_refl _) _⟩
          have b56 := below_step b5 b6
          have S1 := Lib.hid (S1.out.on b56); have S2 := Lib.hid (S2.out.on b56)
          have S3 := Lib.hid (s3.on b6); have S4 := Lib.hid (s4.on b6)
          have PB6 := Lib.hid (PB.out.on b56); have QB6 := Lib.hid QB
          have B6 := Lib.hid (below_step B4.out b56)
          have HW6 := Lib.hid hw6
          obtain ⟨H, hH⟩ : ∃ H, w5.heap.size = H := ⟨_, rfl⟩
          rw [hH] at QB6
          have HH := Lib.hid hH
          clear s3 s4 b5 b6 b56 hw6 hH P2 PB QB B4
          go_upto_region 14 with fail
          rw [HW6.out]
          (try rw [HH.out])
          clear HW6 HH
          have BD : Below w6.heap.size w6 w6.drew := (Below.refl _ _).drew
          obtain ⟨p0, p1⟩ := box2 (PB6.out.on BD)
          obtain ⟨q0, q1⟩ := box2 (QB6.out.on BD)
          have ZZ : (w6.drew.cell? ⟨G, 0, none⟩ = some (.slice A1 rows.length ca1) ∧ w6.drew.cell? ⟨G, 1, none⟩ = some (.slice B1 exs.length cb1)) ∧ w6.drew.cell? ⟨H, 0, none⟩ = some (.slice A2 rows.length ca2) ∧ w6.drew.cell? ⟨H, 1, none⟩ = some (.slice B2 exs.length cb2) := ⟨⟨p0, p1⟩, q0, q1⟩
          have CP := tref_any (ca := ca1) (cb := cb1) (S1.out.on BD) (S2.out.on BD) (by have := HR.out; omega) (by have := HE.out; omega)
          have S3 := Lib.hid (S3.out.on BD); have S4 := Lib.hid (S4.out.on BD)
          have HBD := Lib.hid (below_step B6.out BD)
          clear BD p0 p1 q0 q1 S1 S2 PB6 QB6 B6
          go_region_held3 (fun w' => (w'.cell? ⟨G, 0, none⟩ = some (.slice A1 rows.length ca1) ∧ w'.cell? ⟨G, 1, none⟩ = some (.slice B1 exs.length cb1)) ∧ w'.cell? ⟨H, 0, none⟩ = some (.slice A2 rows.length ca2) ∧ w'.cell? ⟨H, 1, none⟩ = some (.slice B2 exs.length cb2))
            (first
              | with_reducible exact ZZ
              | with_reducible exact Z8
              | with_reducible exact Z9
              | with_reducible exact ZA
              | with_reducible exact ZB)
            (first
              | (go_at_call 14; (with_reducible refine CP.mono ?_); rintro _ w8 ⟨A8, ca8, B8, cb8, rfl, s81, s82, -, -, b8⟩; have Z8 := keep22 b8 ZZ; have CQ := tref_any (ca := ca2) (cb := cb2) (S3.out.on b8) (S4.out.on b8) (by have := HR.out; omega) (by have := HE.out; omega))
              | (go_at_call 14; (with_reducible refine CQ.mono ?_); rintro _ w9 ⟨A9, ca9, B9, cb9, rfl, s91, s92, -, -, b9⟩; have Z9 := keep22 b9 Z8; have CS := tsame_any (ca := ca8) (cb := cb8) (ca' := ca9) (cb' := cb9) (s81.on b9) (s82.on b9) s91 s92 rfl rfl (by have := HR.out; omega) (by have := HE.out; omega))
              | (go_at_call 13; (with_reducible refine CS.mono ?_); rintro _ w10 ⟨rfl, b10⟩; have ZA := keep22 b10 Z9; have CW := awake_any w10)
              | (go_at_call 10; (with_reducible refine CW.mono ?_); rintro _ w11 ⟨rfl, b11⟩; have ZB := keep22 b11 ZA))
          all_goals
            have BZ := Lib.hid (below_step (below_step (below_step (below_step HBD.out b8) b9) b10) b11)
            clear ZZ Z8 Z9 ZA ZB CP CQ CS CW b8 b9 b10 b11 s81 s82 s91 s92
            go_wp2_with fail
            go_ret
            exact ⟨rfl, BZ.out⟩
end Go.Proofs.YtjcfgdldmgmiaaaDoor
