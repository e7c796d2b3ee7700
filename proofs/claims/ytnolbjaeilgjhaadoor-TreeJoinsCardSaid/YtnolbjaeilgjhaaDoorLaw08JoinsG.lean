/-
  TreeJoins: two rule sets, one behind the other, are the rules of both, the second one's places shifted; if one is wrong, it is.
-/
import Derived.Test.YtnolbjaeilgjhaaDoorL8A
import Derived.Test.YtnolbjaeilgjhaaDoorL8J
import Derived.Deep.RegionHeld3
import Derived.Deep.DeepCutAuto
import Derived.Deep.CutBlock
import Derived.OneCell
import Derived.Laws.AppendOwn
namespace Go.Proofs.YtnolbjaeilgjhaaDoor
open Go.RowKit
open PTree (R Ex Tr Rl Row rowsA exsA kA qA shEx shRow)

/-- What a reader answers: rows, a place and an error's kind. -/
def RowsAt (rows : List Row) (exs : List Ex) (k q : Nat) (w : World) (e : Ending) (w' : World) : Prop :=
  ∃ A ca B cb, e = .returned (.tuple #[.agg #[.slice A rows.length ca, .slice B exs.length cb], .int .i64 q, .int .i64 k]) ∧ SlX rowR w' A rows.length rows ∧ SlX exR w' B exs.length exs ∧ Below w.heap.size w w'
theorem rows_atA {r : Option (R (List Rl))} {w : World} {e : Ending} {w' : World} (h : TreeAns r w e w') : RowsAt (rowsA r) (exsA r) (kA r) (qA r) w e w' := by
  match r, h with
  | some (.bad k q), h => exact ⟨none, 0, none, 0, h.2.1, slr_nil _ _ _, slr_nil _ _ _, h.1⟩
  | some (.ok t rs), h =>
    obtain ⟨hb, A, ca, B, cb, he, _, _, h1, h2⟩ := h
    refine ⟨A, ca, B, cb, ?_, ?_, ?_, hb⟩
    · show e = .returned (.tuple #[.agg #[.slice A (PTree.rowsOf 0 rs).length ca, .slice B (PTree.exprsOf 0 rs).length cb], .int .i64 0, .int .i64 0])
      rw [PTree.rowsOf_len, PTree.exprsOf_len]; exact he
    · show SlX rowR w' A (PTree.rowsOf 0 rs).length (PTree.rowsOf 0 rs)
      rw [PTree.rowsOf_len]; exact h1
    · show SlX exR w' B (PTree.exprsOf 0 rs).length (PTree.exprsOf 0 rs)
      rw [PTree.exprsOf_len]; exact h2
theorem join_data (s t : ByteArray) : (s ++ ({ data := #[10] } : ByteArray) ++ t).data.toList = s.data.toList ++ 10 :: t.data.toList := by simp
theorem join_size {s t : ByteArray} (hs : s.size ≤ 300) (ht : t.size ≤ 300) : (s ++ ({ data := #[10] } : ByteArray) ++ t).size ≤ 601 := by
  rw [ByteArray.size_append, ByteArray.size_append]
  show s.size + 1 + t.size ≤ 601
  omega

theorem keep22' {w w' : World} {p0 p1 p2 p3 : Addr} {a b c d : Value} (hb : Below w.heap.size w w') (h : (w.cell? p0 = some a ∧ w.cell? p1 = some b) ∧ w.cell? p2 = some c ∧ w.cell? p3 = some d) :
    (w'.cell? p0 = some a ∧ w'.cell? p1 = some b) ∧ w'.cell? p2 = some c ∧ w'.cell? p3 = some d :=
  ⟨⟨(hb.cell (World.block_lt_of_cell? w _ h.1.1)).trans h.1.1, (hb.cell (World.block_lt_of_cell? w _ h.1.2)).trans h.1.2⟩, (hb.cell (World.block_lt_of_cell? w _ h.2.1)).trans h.2.1, (hb.cell (World.block_lt_of_cell? w _ h.2.2)).trans h.2.2⟩
/-- The worlds differ in one block alone, and rows of the call's own elsewhere are as they were. -/
structure OnlyO (H : Nat) (w w' : World) : Prop where
  only : Only H w w'
  own : ∀ {base : Nat} {e : TypeId} {size : Nat} {v : Value} {n : Nat} {xs : List Value}, w.ownsRow base e size v n xs → v.ownBlock ≠ some H → w'.ownsRow base e size v n xs
theorem OnlyO.refl (H : Nat) (w : World) : OnlyO H w w := ⟨Only.refl H w, fun h _ => h⟩
theorem OnlyO.set {H : Nat} {w w' : World} (h : OnlyO H w w') (j : Nat) (v : Value) : OnlyO H w (w'.setCell ⟨H, j, none⟩ v) := ⟨h.only.set j v, fun ho hn => ownsRow_setCell_other (h.own ho hn) (a := ⟨H, j, none⟩) hn v⟩
theorem OnlyO.drew {H : Nat} {w w' : World} (h : OnlyO H w w') : OnlyO H w w'.drew := ⟨⟨h.only.size, h.only.cell, h.only.frozen, fun hB hb => (h.only.below hB hb).drew⟩, fun ho hn => (h.own ho hn).drew⟩
theorem Box.drew' {w : World} {H : Nat} {vs : List Value} (h : Box w H vs) : Box w.drew H vs := h
theorem Box.grown {w w' : World} {H : Nat} {vs : List Value} {row : Option Nat} (h : Box w H vs) (hg : w.grownBy w' row) (hne : row ≠ some H) : Box w' H vs :=
  ⟨Nat.lt_of_lt_of_le h.1 hg.size, fun j v e => ⟨(hg.cell_far ⟨H, j, none⟩ h.1 (fun k => hne k.symm)).trans (h.2.1 j v e).1, (hg.frozen_far ⟨H, j, none⟩ h.1 (fun k => hne k.symm)).trans (h.2.1 j v e).2⟩, fun j e => (hg.cell_far ⟨H, j, none⟩ h.1 (fun k => hne k.symm)).trans (h.2.2 j e)⟩
/-- Rows of unlike types lie in unlike blocks. -/
theorem own_apart {w : World} {b b' e e' size size' n n' : Nat} {v v' : Value} {xs xs' : List Value} (h : w.ownsRow b e size v n xs) (h' : w.ownsRow b' e' size' v' n' xs') (he : e ≠ e') : v.ownBlock = none ∨ v.ownBlock ≠ v'.ownBlock := by
  rcases h.2 with ⟨rfl, _⟩ | ⟨g, cap, cur, rfl, _, hh, _⟩
  · exact .inl rfl
  · right
    rcases h'.2 with ⟨rfl, _⟩ | ⟨g', cap', cur', rfl, _, hh', _⟩
    · exact fun k => by cases k
    · intro k
      obtain rfl : g = g' := Option.some.inj k
      rw [hh] at hh'
      cases hh'
      exact he rfl
theorem take_snocJ {α : Type} {l : List α} {k : Nat} {y : α} (h : k < l.length) (e : l[k] = y) : l.take (k + 1) = l.take k ++ [y] := by rw [List.take_succ_eq_append_getElem h, e]

set_option maxRecDepth 100000 in
set_option maxHeartbeats 6400000 in
theorem tjoins_walk (s t : ByteArray) (w : World) (hs : s.size ≤ maxLen) (ht : t.size ≤ maxLen) :
    Calls Tryd.prog 6 #[.string s, .string t] w fun e w' => e = .returned (.bool true) ∧ Below w.heap.size w w' := by
  unfold maxLen at hs ht
  have AW := Lib.hid awake_any
  by_cases h3 : 300 < s.size ∨ 300 < t.size
  · by_cases hs1 : 300 < s.size
    · have gs : (300 : Int) < (s.size : Int) := by omega
      clear h3
      go_enter Tryd.func6, Tryd.ntmps6
      go_wp2_with fail
      refine (AW.out _).mono ?_
      rintro _ w1 ⟨rfl, b⟩
      have B := Lib.hid b
      clear b
      go_wp2_with fail
      go_ret
      exact ⟨rfl, B.out⟩
    · have gs1 : ¬ (300 : Int) < (s.size : Int) := by omega
      have gs : (300 : Int) < (t.size : Int) := by omega
      clear h3 hs1
      go_enter Tryd.func6, Tryd.ntmps6
      go_wp2_with fail
      refine (AW.out _).mono ?_
      rintro _ w1 ⟨rfl, b⟩
      have B := Lib.hid b
      clear b
      go_wp2_with fail
      go_ret
      exact ⟨rfl, B.out⟩
  have gs1 : ¬ (300 : Int) < (s.size : Int) := by omega
  have gs2 : ¬ (300 : Int) < (t.size : Int) := by omega
  have hs2 : s.size ≤ 300 := by omega
  have ht2 : t.size ≤ 300 := by omega
  have hne : ∀ l, PTree.parse l ≠ none := fun l => by obtain ⟨r, hr⟩ := PTree.parse_is l; rw [hr]; exact fun k => by cases k
  have JF := PTree.joins_fact s.data.toList t.data.toList (hne _) (hne _)
  have P1 := Lib.hid (fun w => (tparse_any s w (by omega)).mono fun e w' h => rows_atA h)
  have P2 := Lib.hid (fun w => (tparse_any t w (by omega)).mono fun e w' h => rows_atA h)
  have P3 := Lib.hid (fun w => (tparse_any (s ++ ({ data := #[10] } : ByteArray) ++ t) w (by have := join_size hs2 ht2; omega)).mono fun e w' h => rows_atA h)
  rw [join_data] at P3
  have F1 := PTree.exsA_few s.data.toList; have F2 := PTree.exsA_few t.data.toList; have F3 := PTree.exsA_few (s.data.toList ++ 10 :: t.data.toList)
  have hqq := PTree.qA_le t.data.toList
  rw [show t.data.toList.length = t.size from Array.length_toList] at hqq
  have AL := Lib.hid (PTree.exsA_all t.data.toList); have AH := Lib.hid (PTree.exsA_ahead t.data.toList); have RO := Lib.hid (PTree.rowsA_root t.data.toList)
  obtain ⟨r1, hr1⟩ : ∃ r, PTree.parse s.data.toList = r := ⟨_, rfl⟩
  obtain ⟨r2, hr2⟩ : ∃ r, PTree.parse t.data.toList = r := ⟨_, rfl⟩
  obtain ⟨r3, hr3⟩ : ∃ r, PTree.parse (s.data.toList ++ 10 :: t.data.toList) = r := ⟨_, rfl⟩
  rw [hr1, hr2, hr3] at JF
  rw [hr1] at P1 F1; rw [hr2] at P2 F2 AL AH RO hqq; rw [hr3] at P3 F3
  obtain ⟨k1, hk1⟩ : ∃ k, kA r1 = k := ⟨_, rfl⟩; obtain ⟨k2, hk2⟩ : ∃ k, kA r2 = k := ⟨_, rfl⟩; obtain ⟨k3, hk3⟩ : ∃ k, kA r3 = k := ⟨_, rfl⟩
  obtain ⟨q1, hq1⟩ : ∃ k, qA r1 = k := ⟨_, rfl⟩; obtain ⟨q2, hq2⟩ : ∃ k, qA r2 = k := ⟨_, rfl⟩; obtain ⟨q3, hq3⟩ : ∃ k, qA r3 = k := ⟨_, rfl⟩
  obtain ⟨Q1, hQ1⟩ : ∃ k, rowsA r1 = k := ⟨_, rfl⟩; obtain ⟨Q2, hQ2⟩ : ∃ k, rowsA r2 = k := ⟨_, rfl⟩; obtain ⟨Q3, hQ3⟩ : ∃ k, rowsA r3 = k := ⟨_, rfl⟩
  obtain ⟨E1, hE1⟩ : ∃ k, exsA r1 = k := ⟨_, rfl⟩; obtain ⟨E2, hE2⟩ : ∃ k, exsA r2 = k := ⟨_, rfl⟩; obtain ⟨E3, hE3⟩ : ∃ k, exsA r3 = k := ⟨_, rfl⟩
  rw [hk1, hk2, hk3, hq2, hq3, hQ1, hQ2, hQ3, hE1, hE2, hE3] at JF
  rw [hq2] at hqq
  have HQQ : Hid (q2 ≤ 300) := Lib.hid (Nat.le_trans hqq ht2)
  clear hqq
  rw [hk1, hq1, hQ1, hE1] at P1; rw [hk2, hq2, hQ2, hE2] at P2; rw [hk3, hq3, hQ3, hE3] at P3
  rw [hE1, hQ1] at F1; rw [hE2, hQ2] at F2; rw [hE3, hQ3] at F3; rw [hE2] at AL AH; rw [hQ2, hE2] at RO
  rw [show s.data.toList.length = s.size from Array.length_toList] at JF
  have F1 : E1.length + Q1.length ≤ 300 := Nat.le_trans F1 (by rw [Array.length_toList]; exact hs2)
  have F2 : E2.length + Q2.length ≤ 300 := Nat.le_trans F2 (by rw [Array.length_toList]; exact ht2)
  have F3 : E3.length + Q3.length ≤ 601 := Nat.le_trans F3 (by rw [← join_data, Array.length_toList]; exact join_size hs2 ht2)
  have F1 := Lib.hid F1; have F2 := Lib.hid F2; have F3 := Lib.hid F3
  have JF := Lib.hid JF
  have gz : (s ++ ({ data := #[10] } : ByteArray)).size ≤ 301 := by rw [ByteArray.size_append]; show s.size + 1 ≤ 301; omega
  have gz2 := join_size hs2 ht2
  have gm1 : s.size + 1 + t.size ≤ 601 := by omega
  clear hk1 hk2 hk3 hq1 hq2 hq3 hQ1 hQ2 hQ3 hE1 hE2 hE3 hr1 hr2 hr3 hne h3
  obtain ⟨n1, hn1⟩ : ∃ n, Q1.length = n := ⟨_, rfl⟩; obtain ⟨n2, hn2⟩ : ∃ n, Q2.length = n := ⟨_, rfl⟩; obtain ⟨n3, hn3⟩ : ∃ n, Q3.length = n := ⟨_, rfl⟩
  obtain ⟨m1, hm1⟩ : ∃ n, E1.length = n := ⟨_, rfl⟩; obtain ⟨m2, hm2⟩ : ∃ n, E2.length = n := ⟨_, rfl⟩; obtain ⟨m3, hm3⟩ : ∃ n, E3.length = n := ⟨_, rfl⟩
  unfold RowsAt at P1 P2 P3
  rw [hn1, hm1] at P1 F1; rw [hn2, hm2] at P2 F2; rw [hn3, hm3] at P3 F3
  rw [hm2] at RO
  rw [hn1, hn2, hm1] at JF
  have HN1 := Lib.hid hn1; have HN2 := Lib.hid hn2; have HN3 := Lib.hid hn3; have HM1 := Lib.hid hm1; have HM2 := Lib.hid hm2; have HM3 := Lib.hid hm3
  have gn1 : (n1 : Int) ≤ 300 := by have := F1.out; omega
  have gn2 : (n2 : Int) ≤ 300 := by have := F2.out; omega
  have gmm1 : (m1 : Int) ≤ 300 := by have := F1.out; omega
  have gmm2 : (m2 : Int) ≤ 300 := by have := F2.out; omega
  clear hn1 hn2 hn3 hm1 hm2 hm3
  go_enter Tryd.func6, Tryd.ntmps6
  go_wp2_with fail
  refine (P1.out _).mono ?_
  rintro _ w1 ⟨A1, ca1, B1, cb1, rfl, s1, t1, b1⟩
  obtain ⟨w2, hw2, PB, b2⟩ : ∃ w2, w1.alloc (.cells #[.slice A1 n1 ca1, .slice B1 m1 cb1] 26) = w2 ∧ Box w2 w1.heap.size [.slice A1 n1 ca1, .slice B1 m1 cb1] ∧ Below w1.heap.size w1 w2 := ⟨_, rfl, Box.new _ _ [.slice A1 n1 ca1, .slice B1 m1 cb1], (Below.refl _ _).alloc (Nat.le_refl _) _⟩
  have S1 := Lib.hid (s1.on b2); have T1 := Lib.hid (t1.on b2)
  have B2 := Lib.hid (below_step b1 b2)
  have HW2 := Lib.hid hw2
  obtain ⟨G1, hG1⟩ : ∃ G, w1.heap.size = G := ⟨_, rfl⟩
  rw [hG1] at PB
  have PB1 := Lib.hid PB; have HG1 := Lib.hid hG1
  clear s1 t1 b1 b2 hw2 hG1 PB P1
  go_upto_region 4 with fail
  rw [HW2.out]
  (try rw [HG1.out])
  clear HW2 HG1
  go_wp2_with fail
  refine (P2.out _).mono ?_
  rintro _ w3 ⟨A2, ca2, D2, cb2, rfl, s2, t2, b3⟩
  obtain ⟨w4, hw4, PB, b4⟩ : ∃ w4, w3.alloc (.cells #[.slice A2 n2 ca2, .slice D2 m2 cb2] 26) = w4 ∧ Box w4 w3.heap.size [.slice A2 n2 ca2, .slice D2 m2 cb2] ∧ Below w3.heap.size w3 w4 := ⟨_, rfl, Box.new _ _ [.slice A2 n2 ca2, .slice D2 m2 cb2], (Below.refl _ _).alloc (Nat.le_refl _) _⟩
  have b34 := below_step b3 b4
  have S1 := Lib.hid (S1.out.on b34); have T1 := Lib.hid (T1.out.on b34); have PB1 := Lib.hid (PB1.out.on b34)
  have S2 := Lib.hid (s2.on b4); have T2 := Lib.hid (t2.on b4)
  have B4 := Lib.hid (below_step B2.out b34)
  have HW4 := Lib.hid hw4
  obtain ⟨G2, hG2⟩ : ∃ G, w3.heap.size = G := ⟨_, rfl⟩
  rw [hG2] at PB
  have PB2 := Lib.hid PB; have HG2 := Lib.hid hG2
  clear s2 t2 b3 b4 b34 hw4 hG2 PB P2 B2
  go_upto_region 5 with fail
  rw [HW4.out]
  (try rw [HG2.out])
  clear HW4 HG2
  go_wp2_with fail
  refine (P3.out _).mono ?_
  rintro _ w5 ⟨A3, ca3, D3, cb3, rfl, s3, t3, b5⟩
  obtain ⟨w6, hw6, PB, b6⟩ : ∃ w6, w5.alloc (.cells #[.slice A3 n3 ca3, .slice D3 m3 cb3] 26) = w6 ∧ Box w6 w5.heap.size [.slice A3 n3 ca3, .slice D3 m3 cb3] ∧ Below w5.heap.size w5 w6 := ⟨_, rfl, Box.new _ _ [.slice A3 n3 ca3, .slice D3 m3 cb3], (Below.refl _ _).alloc (Nat.le_refl _) _⟩
  have b56 := below_step b5 b6
  have S1 := Lib.hid (S1.out.on b56); have T1 := Lib.hid (T1.out.on b56); have PB1 := Lib.hid (PB1.out.on b56)
  have S2 := Lib.hid (S2.out.on b56); have T2 := Lib.hid (T2.out.on b56); have PB2 := Lib.hid (PB2.out.on b56)
  have S3 := Lib.hid (s3.on b6); have T3 := Lib.hid (t3.on b6)
  have B6 := Lib.hid (below_step B4.out b56)
  have HW6 := Lib.hid hw6
  obtain ⟨G3, hG3⟩ : ∃ G, w5.heap.size = G := ⟨_, rfl⟩
  rw [hG3] at PB
  have PB3 := Lib.hid PB; have HG3 := Lib.hid hG3
  clear s3 t3 b5 b6 b56 hw6 hG3 PB P3 B4
  go_upto_region 6 with fail
  rw [HW6.out]
  (try rw [HG3.out])
  clear HW6 HG3
  rcases JF.out with ⟨hk, hQ⟩ | ⟨hk, hJ⟩
  · have e1 : ((k1 : Int) != 0) = true := by rw [bne_iff_ne]; omega
    have e2 : n1 = 0 := by rw [← HN1.out, hQ]; rfl
    subst e2
    obtain ⟨p0, p1⟩ := box2 PB1.out
    clear JF hk hQ
    go_wp2_with fail
    refine (AW.out _).mono ?_
    rintro _ w7 ⟨rfl, b⟩
    have B7 := Lib.hid (below_step B6.out b)
    clear b
    go_wp2_with fail
    go_ret
    exact ⟨rfl, B7.out⟩
  · subst hk
    have JJ := Lib.hid hJ
    clear JF hJ
    rcases JJ.out with ⟨h60, hk⟩ | ⟨h60, hJ⟩
    · subst hk
      have g60 : (60 : Int) < (n1 : Int) + (n2 : Int) := by omega
      obtain ⟨p0, p1⟩ := box2 PB1.out
      obtain ⟨p2, p3⟩ := box2 PB2.out
      clear JJ h60
      go_wp2_with fail
      refine (AW.out _).mono ?_
      rintro _ w7 ⟨rfl, b⟩
      have B7 := Lib.hid (below_step B6.out b)
      clear b
      go_wp2_with fail
      go_ret
      exact ⟨rfl, B7.out⟩
    · have g60 : ¬ (60 : Int) < (n1 : Int) + (n2 : Int) := by omega
      obtain ⟨p0, p1⟩ := box2 PB1.out
      obtain ⟨p2, p3⟩ := box2 PB2.out
      obtain ⟨p4, p5⟩ := box2 PB3.out
      rcases hJ with ⟨hk2, hQ3, hJ⟩ | ⟨hk2, hk3, hQ, hE⟩
      · have hpos : ((k2 : Int) != 0) = true := by rw [bne_iff_ne]; omega
        have e3 : n3 = 0 := by rw [← HN3.out, hQ3]; rfl
        subst e3
        clear JJ hQ3
        obtain ⟨y, hy⟩ : ∃ y : Int, ((q2 : Nat) : Int) = y := ⟨_, rfl⟩
        have y0 : 0 ≤ y := by omega
        have y1 : y ≤ 300 := by have := HQQ.out; omega
        rcases hJ with ⟨hk3, hq⟩ | ⟨hk3, hk⟩
        · subst hk3
          have kk : ((k3 : Int) == (k3 : Int)) = true := beq_self_eq_true _
          have hz : (((q3 : Nat) : Int) == y + (s.size : Int) + 1) = true := by rw [beq_iff_eq]; omega
          obtain ⟨z, hzz⟩ : ∃ z : Int, ((q3 : Nat) : Int) = z := ⟨_, rfl⟩
          rw [hzz] at hz ⊢
          rw [hy]
          clear hq hzz hy HQQ
          go_wp2_with fail
          refine (AW.out _).mono ?_
          rintro _ w7 ⟨rfl, b⟩
          have B7 := Lib.hid (below_step B6.out b)
          clear b
          go_wp2_with fail
          go_ret
          exact ⟨rfl, B7.out⟩
        · subst hk3
          have h9 : (((9 : Nat) : Int) == (9 : Int)) = true := rfl
          obtain ⟨z, hzz⟩ : ∃ z : Int, ((q3 : Nat) : Int) = z := ⟨_, rfl⟩
          rw [hzz, hy]
          clear hzz hy HQQ
          rcases hk with rfl | rfl
          · go_wp2_with fail
            refine (AW.out _).mono ?_
            rintro _ w7 ⟨rfl, b⟩
            have B7 := Lib.hid (below_step B6.out b)
            clear b
            go_wp2_with fail
            go_ret
            exact ⟨rfl, B7.out⟩
          · cases hz : (z == y + (s.size : Int) + 1) with
            | true =>
              go_wp2_with fail
              refine (AW.out _).mono ?_
              rintro _ w7 ⟨rfl, b⟩
              have B7 := Lib.hid (below_step B6.out b)
              clear b
              go_wp2_with fail
              go_ret
              exact ⟨rfl, B7.out⟩
            | false =>
              go_wp2_with fail
              refine (AW.out _).mono ?_
              rintro _ w7 ⟨rfl, b⟩
              have B7 := Lib.hid (below_step B6.out b)
              clear b
              go_wp2_with fail
              go_ret
              exact ⟨rfl, B7.out⟩
      · subst hk2 hk3
        clear JJ p4 p5
        have CR : Hid (Calls Tryd.prog 14 #[.agg #[.slice A1 n1 ca1, .slice B1 m1 cb1]] w6 fun e w' => ∃ A' ca' B' cb', e = .returned (.agg #[.slice A' n1 ca', .slice B' m1 cb']) ∧ w'.ownsRow w6.heap.size 50 3 (.slice A' n1 ca') n1 (rowR.cells Q1) ∧ w'.ownsRow w6.heap.size 49 6 (.slice B' m1 cb') m1 (exR.cells E1) ∧ Below w6.heap.size w6 w') := Lib.hid (by
          have h := tref_own (w := w6) (A := A1) (B := B1) (ca := ca1) (cb := cb1) (rows := Q1) (exs := E1) (by rw [HN1.out]; exact S1.out) (by rw [HM1.out]; exact T1.out) (by rw [HN1.out]; omega) (by rw [HM1.out]; omega)
          rw [HN1.out, HM1.out] at h
          refine h.mono ?_
          rintro e w' ⟨A', ca', B', cb', h1, h2, h3, h4, h5, h6, h7, h8⟩
          exact ⟨A', ca', B', cb', h1, h6, h7, h8⟩)
        obtain ⟨L0, hL0⟩ : ∃ L, w6.heap.size = L := ⟨_, rfl⟩
        have HL0 := Lib.hid hL0
        rw [hL0] at CR
        have hg1 : G1 < L0 := by rw [← hL0]; exact PB1.out.1
        have hg2 : G2 < L0 := by rw [← hL0]; exact PB2.out.1
        have hg3 : G3 < L0 := by rw [← hL0]; exact PB3.out.1
        have HG := Lib.hid (⟨hg1, hg2, hg3⟩ : G1 < L0 ∧ G2 < L0 ∧ G3 < L0)
        clear hL0 hg1 hg2 hg3 S1 T1
        go_wp2_with fail
        refine (CR.out).mono ?_
        rintro _ w7 ⟨A', ca', V', vc', rfl, oR, oE, b7⟩
        obtain ⟨w8, hw8, WBX, b8⟩ : ∃ w8, w7.alloc (.cells #[.slice A' n1 ca', .slice V' m1 vc'] 33) = w8 ∧ Box w8 w7.heap.size [.slice A' n1 ca', .slice V' m1 vc'] ∧ Below w7.heap.size w7 w8 := ⟨_, rfl, Box.new _ _ [.slice A' n1 ca', .slice V' m1 vc'], (Below.refl _ _).alloc (Nat.le_refl _) _⟩
        have OR8 := Lib.hid (own_kept oR b8); have OE8 := Lib.hid (own_kept oE b8)
        obtain ⟨WB, hWB⟩ : ∃ W, w7.heap.size = W := ⟨_, rfl⟩
        have HWR : Hid (∀ g, (Value.slice A' n1 ca').ownBlock = some g → g ≠ WB) := Lib.hid (fun g e => by have := (oR.lt g e).2; omega)
        have HWE : Hid (∀ g, (Value.slice V' m1 vc').ownBlock = some g → g ≠ WB) := Lib.hid (fun g e => by have := (oE.lt g e).2; omega)
        have b68 : Below L0 w6 w8 := b7.trans (b8.mono (by rw [← HL0.out]; exact b7.size))
        have hWL : L0 ≤ WB := by rw [← hWB, ← HL0.out]; exact b7.size
        rw [hWB] at WBX
        have B8 := Lib.hid b68; have WB8 := Lib.hid WBX; have HW8 := Lib.hid hw8; have HWB := Lib.hid hWB; have HWL := Lib.hid hWL
        clear p0 p1 p2 p3 oR oE b7 b8 b68 hWB hWL hw8 WBX CR
        go_upto_region 13 with fail
        rw [HW8.out]
        (try rw [HWB.out])
        clear HW8 HWB
        obtain ⟨p0, p1⟩ := box2 (PB1.out.keep B8.out HG.out.1)
        obtain ⟨p2, p3⟩ := box2 (PB2.out.keep B8.out HG.out.2.1)
        go_wp2_with fail
        clear p0 p1 p2 p3
        go_loopw [120] (fun i wr => ∃ (k : Nat) (V : Option Addr) (vc : Nat), k ≤ m2 ∧ i = .int .i64 k ∧ Hid (Box wr WB [.slice A' n1 ca', .slice V (m1 + k) vc]) ∧ Hid (wr.ownsRow L0 49 6 (.slice V (m1 + k) vc) (m1 + k) (exR.cells (E1 ++ (E2.map (shEx m1)).take k))) ∧ Hid (wr.ownsRow L0 50 3 (.slice A' n1 ca') n1 (rowR.cells Q1)) ∧ Hid (∀ g, (Value.slice V (m1 + k) vc).ownBlock = some g → g ≠ WB) ∧ Hid (Below L0 w6 wr)) (fun i _ => m2 - (intOf i).toNat)
        case atStart => exact ⟨0, V', vc', Nat.zero_le _, rfl, WB8, (show Hid _ from by rw [List.take_zero, List.append_nil]; exact OE8.out), OR8, HWE, B8⟩
        case round =>
          clear WB8 OE8 OR8 HWE B8
          obtain ⟨k, V, vc, hk, rfl, I1, I2, I3, I4, I5⟩ := hrel
          by_cases hlt : k < m2
          · have IB := T2.out.on (by rw [HL0.out]; exact I5.out)
            obtain ⟨b, off, rfl, hc⟩ := IB.at hlt
            have hkl : k < E2.length := by rw [HM2.out]; exact hlt
            obtain ⟨⟨o, nm, vl, ya, yb, yc⟩, hy⟩ : ∃ y, E2[k] = y := ⟨_, rfl⟩
            have hd := hc k hkl
            rw [hy] at hd
            have c0 : wr.cell? ⟨b, off + k * 6, none⟩ = some (.string ⟨o.toArray⟩) := by simpa [exR] using hd 0 _ rfl
            have c1 : wr.cell? ⟨b, off + k * 6 + 1, none⟩ = some (.string ⟨nm.toArray⟩) := hd 1 _ rfl
            have c2 : wr.cell? ⟨b, off + k * 6 + 2, none⟩ = some (.int .i64 vl) := hd 2 _ rfl
            have c3 : wr.cell? ⟨b, off + k * 6 + 3, none⟩ = some (.int .i64 ya) := hd 3 _ rfl
            have c4 : wr.cell? ⟨b, off + k * 6 + 4, none⟩ = some (.int .i64 yb) := hd 4 _ rfl
            have c5 : wr.cell? ⟨b, off + k * 6 + 5, none⟩ = some (.int .i64 yc) := hd 5 _ rfl
            have hsb := World.block_lt_of_cell? wr _ c0
            have HOP : Hid (o ∈ PTree.allL) := Lib.hid (AL.out ⟨o, nm, vl, ya, yb, yc⟩ (by rw [← hy]; exact List.getElem_mem hkl))
            have HPA : Hid (∀ p ∈ PTree.partsOf (⟨o, nm, vl, ya, yb, yc⟩ : Ex), p ≤ 300) := Lib.hid (fun p hp => by have := AH.out k ⟨o, nm, vl, ya, yb, yc⟩ (by rw [List.getElem?_eq_getElem hkl, hy]) p hp; omega)
            have HTK : Hid ((E2.map (shEx m1)).take (k + 1) = (E2.map (shEx m1)).take k ++ [shEx m1 ⟨o, nm, vl, ya, yb, yc⟩]) := Lib.hid (take_snocJ (by rw [List.length_map]; exact hkl) (by rw [List.getElem_map, hy]))
            obtain ⟨w9, hw9, XB, b9⟩ : ∃ w9, wr.alloc (.cells #[.string ⟨o.toArray⟩, .string ⟨nm.toArray⟩, .int .i64 vl, .int .i64 ya, .int .i64 yb, .int .i64 yc] 41) = w9 ∧ Box w9 wr.heap.size [.string ⟨o.toArray⟩, .string ⟨nm.toArray⟩, .int .i64 vl, .int .i64 ya, .int .i64 yb, .int .i64 yc] ∧ Below wr.heap.size wr w9 := ⟨_, rfl, Box.new _ _ [.string ⟨o.toArray⟩, .string ⟨nm.toArray⟩, .int .i64 vl, .int .i64 ya, .int .i64 yb, .int .i64 yc], (Below.refl _ _).alloc (Nat.le_refl _) _⟩
            obtain ⟨w10, hw10, YB, b10⟩ : ∃ w10, w9.alloc (.cells #[.string ⟨o.toArray⟩, .string ⟨nm.toArray⟩, .int .i64 vl, .int .i64 ya, .int .i64 yb, .int .i64 yc] 49) = w10 ∧ Box w10 w9.heap.size [.string ⟨o.toArray⟩, .string ⟨nm.toArray⟩, .int .i64 vl, .int .i64 ya, .int .i64 yb, .int .i64 yc] ∧ Below w9.heap.size w9 w10 := ⟨_, rfl, Box.new _ _ [.string ⟨o.toArray⟩, .string ⟨nm.toArray⟩, .int .i64 vl, .int .i64 ya, .int .i64 yb, .int .i64 yc], (Below.refl _ _).alloc (Nat.le_refl _) _⟩
            have b910 := below_step b9 b10
            obtain ⟨X, hX⟩ : ∃ X, wr.heap.size = X := ⟨_, rfl⟩
            obtain ⟨Y, hY⟩ : ∃ Y, w9.heap.size = Y := ⟨_, rfl⟩
            have W10 := Lib.hid (I1.out.on b910); have E10 := Lib.hid (own_kept I2.out b910); have R10 := Lib.hid (own_kept I3.out b910)
            have B10 := Lib.hid (I5.out.trans (b910.mono (Nat.le_trans HWL.out (Nat.le_of_lt I1.out.1))))
            have hWX : WB < X := by rw [← hX]; exact I1.out.1
            have hXY : X < Y := by rw [← hX, ← hY]; exact XB.1
            have hYE : Hid ((Value.slice V (m1 + k) vc).ownBlock ≠ some Y) := Lib.hid (fun e => by have := (I2.out.lt Y e).2; omega)
            have hYR : Hid ((Value.slice A' n1 ca').ownBlock ≠ some Y) := Lib.hid (fun e => by have := (I3.out.lt Y e).2; omega)
            have XB10 := XB.on b10
            have xb9 := XB
            rw [hX] at XB10 XB
            rw [hY] at YB
            have XB9 := Lib.hid XB; have XBB := Lib.hid XB10; have YBB := Lib.hid YB
            have HW9 := Lib.hid hw9; have HW10 := Lib.hid hw10; have HX := Lib.hid hX; have HY := Lib.hid hY
            have HWXY := Lib.hid (⟨hWX, hXY⟩ : WB < X ∧ X < Y)
            clear hc hd hw9 hw10 b9 b10 b910 XB YB xb9 XB10 IB hy hX hY I1 I2 I3 I5 hWX hXY
            go_upto_region 17 with fail
            rw [HW9.out]
            (try rw [HX.out])
            clear c0 c1 c2 c3 c4 c5 hsb HW9
            obtain ⟨x0, x1, x2, x3, x4, x5⟩ := box6 XB9.out
            go_upto_region 18 with fail
            rw [HW10.out]
            (try rw [HY.out])
            clear x0 x1 x2 x3 x4 x5 HW10 HX HY XB9
            obtain ⟨x0, x1, x2, x3, x4, x5⟩ := box6 XBB.out
            go_upto_block 2 with fail
            obtain ⟨y0, y1, y2, y3, y4, y5⟩ := box6 YBB.out
            obtain ⟨f0, f1, f2, f3, f4, f5⟩ : w10.frozen? ⟨Y, 0, none⟩ = false ∧ w10.frozen? ⟨Y, 1, none⟩ = false ∧ w10.frozen? ⟨Y, 2, none⟩ = false ∧ w10.frozen? ⟨Y, 3, none⟩ = false ∧ w10.frozen? ⟨Y, 4, none⟩ = false ∧ w10.frozen? ⟨Y, 5, none⟩ = false := ⟨YBB.out.f 0 rfl, YBB.out.f 1 rfl, YBB.out.f 2 rfl, YBB.out.f 3 rfl, YBB.out.f 4 rfl, YBB.out.f 5 rfl⟩
            go_cut [137] (fun _ wx => Hid (Box wx Y (exC (shEx m1 ⟨o, nm, vl, ya, yb, yc⟩))) ∧ Hid (OnlyO Y w10 wx))
            case first =>
              have hop := HOP.out
              clear W10 E10 R10 B10 HOP HTK AL AH RO HN1 HN2 HN3 HM1 HM2 HM3 F1 F2 F3 HQQ S2 S3 T2 T3 PB1 PB2 PB3
              have LF : Hid (o ∈ PTree.leafOps → Box w10 Y (exC (shEx m1 ⟨o, nm, vl, ya, yb, yc⟩)) ∧ OnlyO Y w10 w10) := Lib.hid (fun h => ⟨by rw [PTree.sh_leaf h]; exact YBB.out, OnlyO.refl Y w10⟩)
              simp only [PTree.allL, List.mem_append, List.mem_cons, List.not_mem_nil, or_false] at hop
              rcases hop with (rfl | rfl | rfl | rfl | rfl | rfl) | h
              · have ha : ya ≤ 300 := HPA.out ya (by rw [PTree.parts_neg]; exact List.mem_cons_self ..)
                obtain ⟨ja, hja⟩ : ∃ j, j = ya + m1 := ⟨_, rfl⟩
                have gja : (ya : Int) + (m1 : Int) = (ja : Int) := by omega
                have FIN : Hid (Box (w10.setCell ⟨Y, 3, none⟩ (.int .i64 (ja : Nat))) Y (exC (shEx m1 ⟨[110, 101, 103], nm, vl, ya, yb, yc⟩)) ∧ OnlyO Y w10 (w10.setCell ⟨Y, 3, none⟩ (.int .i64 (ja : Nat)))) := Lib.hid ⟨by rw [PTree.sh_neg, ← hja]; exact YBB.out.set 3 (by simp) _, (OnlyO.refl Y w10).set 3 _⟩
                clear hja
                go_wp2_with fail
                go_meet
                exact ⟨Lib.hid FIN.out.1, Lib.hid FIN.out.2⟩
              · have ha : ya ≤ 300 := HPA.out ya (by rw [PTree.parts_if]; simp)
                have hb : yb ≤ 300 := HPA.out yb (by rw [PTree.parts_if]; simp)
                have hcc : yc ≤ 300 := HPA.out yc (by rw [PTree.parts_if]; simp)
                obtain ⟨ja, hja⟩ : ∃ j, j = ya + m1 := ⟨_, rfl⟩
                have gja : (ya : Int) + (m1 : Int) = (ja : Int) := by omega
                obtain ⟨jb, hjb⟩ : ∃ j, j = yb + m1 := ⟨_, rfl⟩
                have gjb : (yb : Int) + (m1 : Int) = (jb : Int) := by omega
                obtain ⟨jc, hjc⟩ : ∃ j, j = yc + m1 := ⟨_, rfl⟩
                have gjc : (yc : Int) + (m1 : Int) = (jc : Int) := by omega
                have hXY := HWXY.out.2
                have gXY : ¬ X = Y := by omega
                have gYX : ¬ Y = X := by omega
                have FIN : Hid (Box (((w10.setCell ⟨Y, 3, none⟩ (.int .i64 (ja : Nat))).setCell ⟨Y, 4, none⟩ (.int .i64 (jb : Nat))).setCell ⟨Y, 5, none⟩ (.int .i64 (jc : Nat))) Y (exC (shEx m1 ⟨[105, 102], nm, vl, ya, yb, yc⟩)) ∧ OnlyO Y w10 (((w10.setCell ⟨Y, 3, none⟩ (.int .i64 (ja : Nat))).setCell ⟨Y, 4, none⟩ (.int .i64 (jb : Nat))).setCell ⟨Y, 5, none⟩ (.int .i64 (jc : Nat)))) := Lib.hid ⟨by rw [PTree.sh_if, ← hja, ← hjb, ← hjc]; exact ((YBB.out.set 3 (by simp) _).set 4 (by simp) _).set 5 (by simp) _, (((OnlyO.refl Y w10).set 3 _).set 4 _).set 5 _⟩
                clear hja hjb hjc hXY
                go_upto_region 25 with fail
                go_region
                go_wp2_with fail
                go_meet
                exact ⟨Lib.hid FIN.out.1.drew', Lib.hid FIN.out.2.drew⟩
              iterate 4
                · go_wp2_with fail
                  go_meet
                  exact ⟨Lib.hid (LF.out (by decide)).1, Lib.hid (LF.out (by decide)).2⟩
              · have ha : ya ≤ 300 := HPA.out ya (by rw [PTree.parts_bin h]; simp)
                have hb : yb ≤ 300 := HPA.out yb (by rw [PTree.parts_bin h]; simp)
                obtain ⟨ja, hja⟩ : ∃ j, j = ya + m1 := ⟨_, rfl⟩
                have gja : (ya : Int) + (m1 : Int) = (ja : Int) := by omega
                obtain ⟨jb, hjb⟩ : ∃ j, j = yb + m1 := ⟨_, rfl⟩
                have gjb : (yb : Int) + (m1 : Int) = (jb : Int) := by omega
                have hXY := HWXY.out.2
                have gXY : ¬ X = Y := by omega
                have gYX : ¬ Y = X := by omega
                have FIN : Hid (Box ((w10.setCell ⟨Y, 3, none⟩ (.int .i64 (ja : Nat))).setCell ⟨Y, 4, none⟩ (.int .i64 (jb : Nat))) Y (exC (shEx m1 ⟨o, nm, vl, ya, yb, yc⟩)) ∧ OnlyO Y w10 ((w10.setCell ⟨Y, 3, none⟩ (.int .i64 (ja : Nat))).setCell ⟨Y, 4, none⟩ (.int .i64 (jb : Nat)))) := Lib.hid ⟨by rw [PTree.sh_bin h, ← hja, ← hjb]; exact (YBB.out.set 3 (by simp) _).set 4 (by simp) _, ((OnlyO.refl Y w10).set 3 _).set 4 _⟩
                clear hja hjb hXY
                simp only [PTree.opsL, List.mem_cons, List.not_mem_nil, or_false] at h
                rcases h with rfl | rfl | rfl | rfl | rfl | rfl | rfl | rfl | rfl | rfl | rfl
                all_goals
                  go_upto_region 19 with fail
                  go_region
                  go_wp2_with fail
                  go_meet
                  exact ⟨Lib.hid FIN.out.1.drew', Lib.hid FIN.out.2.drew⟩
            case rest =>
              obtain ⟨hYB, hON⟩ := hcut
              obtain ⟨z, hz⟩ : ∃ z, shEx m1 ⟨o, nm, vl, ya, yb, yc⟩ = z := ⟨_, rfl⟩
              rw [hz] at HTK hYB
              have hne : WB ≠ Y := by have := HWXY.out; omega
              have W11 := Lib.hid (W10.out.only hON.out.only hne)
              have E11 := Lib.hid (hON.out.own E10.out hYE.out)
              have R11 := Lib.hid (hON.out.own R10.out hYR.out)
              have B11 := Lib.hid (hON.out.only.below (by have := HWXY.out; have := HWL.out; omega) B10.out)
              clear hON W10 E10 R10 B10 hYE hYR HOP HPA XBB YBB hz x0 x1 x2 x3 x4 x5
              have Y11 := hYB
              clear hYB
              obtain ⟨y0, y1, y2, y3, y4, y5⟩ := box6 Y11.out
              obtain ⟨g0, g1⟩ := box2 W11.out
              obtain ⟨h0, h1⟩ := box2f W11.out
              have hcn : (E1 ++ (E2.map (shEx m1)).take k).length = m1 + k := by rw [List.length_append, HM1.out, List.length_take, List.length_map, HM2.out]; omega
              have OWr : Hid (wc.ownsRow L0 49 exR.k (.slice V (m1 + k) vc) (E1 ++ (E2.map (shEx m1)).take k).length (exR.cells (E1 ++ (E2.map (shEx m1)).take k))) := Lib.hid (by rw [hcn]; exact E11.out)
              have hn6 : (E1 ++ (E2.map (shEx m1)).take k).length + 1 ≤ 100000 := by rw [hcn]; omega
              have hcl : L0 ≤ wc.heap.size := Nat.le_trans HWL.out (Nat.le_of_lt W11.out.1)
              go_wp2_with (at_builtin; refine append_rec_far doc_exTy rfl _ _ rfl L0 _ (E1 ++ (E2.map (shEx m1)).take k) z (by rfl) OWr.out (by rfl) hn6 hcl ?_)
              intro v' w12 hown hg12 hat12
              have FIN : Hid (∃ V2 c2, v' = .slice V2 (m1 + (k + 1)) c2 ∧ Box (w12.setCell ⟨WB, 1, none⟩ v') WB [.slice A' n1 ca', v'] ∧ (w12.setCell ⟨WB, 1, none⟩ v').ownsRow L0 49 6 v' (m1 + (k + 1)) (exR.cells (E1 ++ (E2.map (shEx m1)).take (k + 1))) ∧ (w12.setCell ⟨WB, 1, none⟩ v').ownsRow L0 50 3 (.slice A' n1 ca') n1 (rowR.cells Q1) ∧ (∀ g, v'.ownBlock = some g → g ≠ WB) ∧ Below L0 w6 (w12.setCell ⟨WB, 1, none⟩ v')) := Lib.hid (by
                have ba := (Below.refl wc.heap.size wc).alloc (Nat.le_refl _) (.cells (exR.C z).toArray 49)
                have hWa : WB < wc.heap.size := W11.out.1
                obtain ⟨wa, hwa⟩ : ∃ wa, wc.alloc (.cells (exR.C z).toArray 49) = wa := ⟨_, rfl⟩
                rw [hwa] at ba hg12
                have hrowne : (Value.slice V (m1 + k) vc).ownBlock ≠ some WB := fun e => I4.out WB e rfl
                have b12 : Below L0 wc w12 := (ba.mono hcl).trans ((Below.refl L0 wa).grown hg12 (Nat.le_trans hcl ba.size) (fun g e => (E11.out.lt g e).1))
                have W12 : Box w12 WB [.slice A' n1 ca', .slice V (m1 + k) vc] := (W11.out.on ba).grown hg12 hrowne
                have Ra := own_kept R11.out ba
                have Ea := own_kept E11.out ba
                have R12 : w12.ownsRow L0 50 3 (.slice A' n1 ca') n1 (rowR.cells Q1) := Ra.kept hg12 (own_apart Ra Ea (by decide))
                have hne' : ∀ g, v'.ownBlock = some g → g ≠ WB := fun g e => by
                  rcases hat12 with h | h
                  · rw [h] at e; exact I4.out g e
                  · rw [h] at e; cases e; omega
                have hRne : (Value.slice A' n1 ca').ownBlock ≠ some WB := fun e => HWR.out WB e rfl
                (try rw [hcn] at hown)
                (try rw [List.append_assoc] at hown)
                have hk1 : (E2.map (shEx m1)).take (k + 1) = (E2.map (shEx m1)).take k ++ [z] := HTK.out
                rw [← hk1, Nat.add_assoc] at hown
                obtain ⟨V2, c2, rfl, _⟩ := own_slice hown
                refine ⟨V2, c2, rfl, W12.set 1 (by simp) _, ownsRow_setCell_other hown (a := ⟨WB, 1, none⟩) (fun e => hne' WB e rfl) _, ownsRow_setCell_other R12 (a := ⟨WB, 1, none⟩) hRne _, hne', (B11.out.trans b12).setCell HWL.out _⟩)
              have hw12 : w12.cell? ⟨WB, 1, none⟩ = some (.slice V (m1 + k) vc) ∧ w12.frozen? ⟨WB, 1, none⟩ = false ∧ WB < w12.heap.size := by
                have ba := (Below.refl wc.heap.size wc).alloc (Nat.le_refl _) (.cells (exR.C z).toArray 49)
                have W12 := (W11.out.on ba).grown hg12 (fun e => I4.out WB e rfl)
                exact ⟨W12.c 1 rfl, W12.f 1 rfl, W12.1⟩
              obtain ⟨j1, j2, j3⟩ := hw12
              obtain ⟨V2, c2, rfl, FIN⟩ := FIN.out
              have FIN := Lib.hid FIN
              clear hown hg12 hat12 OWr hn6 hcl hcn W11 E11 R11 B11 Y11 y0 y1 y2 y3 y4 y5 g0 g1 h0 h1 I4 HTK
              go_wp2_with fail
              exact ⟨⟨k + 1, V2, c2, by omega, rfl, Lib.hid FIN.out.1, Lib.hid FIN.out.2.1, Lib.hid FIN.out.2.2.1, Lib.hid FIN.out.2.2.2.1, Lib.hid FIN.out.2.2.2.2⟩, by simp [intOf]; omega⟩
          · obtain rfl : k = m2 := by omega
            have hn3 : n3 = n1 + n2 := by rw [← HN3.out, hQ, List.length_append, List.length_map, HN1.out, HN2.out]
            have hm3 : m3 = m1 + k := by rw [← HM3.out, hE, List.length_append, List.length_map, HM1.out, HM2.out]
            subst hn3 hm3
            have hEt : (E2.map (shEx m1)).take k = E2.map (shEx m1) := List.take_of_length_le (by rw [List.length_map, HM2.out]; exact Nat.le_refl _)
            have E9 : Hid (wr.ownsRow L0 49 6 (.slice V (m1 + k) vc) (m1 + k) (exR.cells E3)) := Lib.hid (by have h := I2.out; rw [hEt, ← hE] at h; exact h)
            obtain ⟨p0, p1⟩ := box2 (PB2.out.keep I5.out HG.out.2.1)
            obtain ⟨wo, hwo⟩ : ∃ wo, wo = wr := ⟨_, rfl⟩
            subst hwo
            have HEW := I4
            clear hEt I2 hlt hk T2 AL AH I4
            go_wp2_with fail
            clear p0 p1
            go_loopw [176] (fun i wx => ∃ (q : Nat) (V2 : Option Addr) (c2 : Nat), q ≤ n2 ∧ i = .int .i64 q ∧ Hid (Box wx WB [.slice V2 (n1 + q) c2, .slice V (m1 + k) vc]) ∧ Hid (wx.ownsRow L0 50 3 (.slice V2 (n1 + q) c2) (n1 + q) (rowR.cells (Q1 ++ (Q2.map (shRow m1)).take q))) ∧ Hid (wx.ownsRow L0 49 6 (.slice V (m1 + k) vc) (m1 + k) (exR.cells E3)) ∧ Hid (∀ g, (Value.slice V2 (n1 + q) c2).ownBlock = some g → g ≠ WB) ∧ Hid (Below L0 w6 wx)) (fun i _ => n2 - (intOf i).toNat)
            case atStart => exact ⟨0, A', ca', Nat.zero_le _, rfl, I1, (show Hid _ from by rw [List.take_zero, List.append_nil]; exact I3.out), E9, HWR, I5⟩
            case round =>
              clear I1 I3 E9 HWR I5
              obtain ⟨q, V2, c2, hq, rfl, I1, I2, I3, I4, I5⟩ := hrel
              by_cases hqn : q < n2
              · have IA := S2.out.on (by rw [HL0.out]; exact I5.out)
                obtain ⟨b, off, rfl, hc⟩ := IA.at hqn
                have hql : q < Q2.length := by rw [HN2.out]; exact hqn
                obtain ⟨⟨kd, nm, r⟩, hy⟩ : ∃ y, Q2[q] = y := ⟨_, rfl⟩
                have hd := hc q hql
                rw [hy] at hd
                have c0 : wr.cell? ⟨b, off + q * 3, none⟩ = some (.string ⟨kd.toArray⟩) := by simpa [rowR] using hd 0 _ rfl
                have c1 : wr.cell? ⟨b, off + q * 3 + 1, none⟩ = some (.string ⟨nm.toArray⟩) := hd 1 _ rfl
                have cc2 : wr.cell? ⟨b, off + q * 3 + 2, none⟩ = some (.int .i64 r) := hd 2 _ rfl
                have hsb := World.block_lt_of_cell? wr _ c0
                have hr300 : r ≤ 300 := by have := RO.out ⟨kd, nm, r⟩ (by rw [← hy]; exact List.getElem_mem hql); simp only [] at this; omega
                obtain ⟨jr, hjr⟩ : ∃ j, j = r + m1 := ⟨_, rfl⟩
                have gjr : (r : Int) + (m1 : Int) = (jr : Int) := by omega
                have HTK : Hid ((Q2.map (shRow m1)).take (q + 1) = (Q2.map (shRow m1)).take q ++ [⟨kd, nm, jr⟩]) := Lib.hid (take_snocJ (by rw [List.length_map]; exact hql) (by rw [List.getElem_map, hy, hjr]; rfl))
                obtain ⟨w9, hw9, XB, b9⟩ : ∃ w9, wr.alloc (.cells #[.string ⟨kd.toArray⟩, .string ⟨nm.toArray⟩, .int .i64 r] 43) = w9 ∧ Box w9 wr.heap.size [.string ⟨kd.toArray⟩, .string ⟨nm.toArray⟩, .int .i64 r] ∧ Below wr.heap.size wr w9 := ⟨_, rfl, Box.new _ _ [.string ⟨kd.toArray⟩, .string ⟨nm.toArray⟩, .int .i64 r], (Below.refl _ _).alloc (Nat.le_refl _) _⟩
                have W11 := Lib.hid (I1.out.on b9); have R11 := Lib.hid (own_kept I2.out b9); have E11 := Lib.hid (own_kept I3.out b9)
                have B11 := Lib.hid (I5.out.trans (b9.mono (Nat.le_trans HWL.out (Nat.le_of_lt I1.out.1))))
                have HW9 := Lib.hid hw9
                obtain ⟨x0, x1, x2⟩ := box3 XB
                have hxs := XB.1
                clear hc hd hw9 b9 XB IA hy hjr I1 I2 I3 I5
                go_upto_region 33 with fail
                rw [HW9.out]
                clear c0 c1 cc2 hsb HW9
                obtain ⟨g0, g1⟩ := box2 W11.out
                obtain ⟨h0, h1⟩ := box2f W11.out
                have hcn : (Q1 ++ (Q2.map (shRow m1)).take q).length = n1 + q := by rw [List.length_append, HN1.out, List.length_take, List.length_map, HN2.out]; omega
                have OWr : Hid (w9.ownsRow L0 50 rowR.k (.slice V2 (n1 + q) c2) (Q1 ++ (Q2.map (shRow m1)).take q).length (rowR.cells (Q1 ++ (Q2.map (shRow m1)).take q))) := Lib.hid (by rw [hcn]; exact R11.out)
                have hn6 : (Q1 ++ (Q2.map (shRow m1)).take q).length + 1 ≤ 100000 := by rw [hcn]; omega
                have hcl : L0 ≤ w9.heap.size := Nat.le_trans HWL.out (Nat.le_of_lt W11.out.1)
                go_wp2_with (at_builtin; refine append_rec_far doc_rowTy rfl _ _ rfl L0 _ (Q1 ++ (Q2.map (shRow m1)).take q) ⟨kd, nm, jr⟩ (by rfl) OWr.out (by rfl) hn6 hcl ?_)
                intro v' w12 hown hg12 hat12
                have FIN : Hid (∃ V3 c3, v' = .slice V3 (n1 + (q + 1)) c3 ∧ Box (w12.setCell ⟨WB, 0, none⟩ v') WB [v', .slice V (m1 + k) vc] ∧ (w12.setCell ⟨WB, 0, none⟩ v').ownsRow L0 50 3 v' (n1 + (q + 1)) (rowR.cells (Q1 ++ (Q2.map (shRow m1)).take (q + 1))) ∧ (w12.setCell ⟨WB, 0, none⟩ v').ownsRow L0 49 6 (.slice V (m1 + k) vc) (m1 + k) (exR.cells E3) ∧ (∀ g, v'.ownBlock = some g → g ≠ WB) ∧ Below L0 w6 (w12.setCell ⟨WB, 0, none⟩ v')) := Lib.hid (by
                  have ba := (Below.refl w9.heap.size w9).alloc (Nat.le_refl _) (.cells (rowR.C ⟨kd, nm, jr⟩).toArray 50)
                  have hWa : WB < w9.heap.size := W11.out.1
                  obtain ⟨wa, hwa⟩ : ∃ wa, w9.alloc (.cells (rowR.C ⟨kd, nm, jr⟩).toArray 50) = wa := ⟨_, rfl⟩
                  rw [hwa] at ba hg12
                  have hrowne : (Value.slice V2 (n1 + q) c2).ownBlock ≠ some WB := fun e => I4.out WB e rfl
                  have b12 : Below L0 w9 w12 := (ba.mono hcl).trans ((Below.refl L0 wa).grown hg12 (Nat.le_trans hcl ba.size) (fun g e => (R11.out.lt g e).1))
                  have W12 : Box w12 WB [.slice V2 (n1 + q) c2, .slice V (m1 + k) vc] := (W11.out.on ba).grown hg12 hrowne
                  have Ra := own_kept R11.out ba
                  have Ea := own_kept E11.out ba
                  have E12 : w12.ownsRow L0 49 6 (.slice V (m1 + k) vc) (m1 + k) (exR.cells E3) := Ea.kept hg12 (own_apart Ea Ra (by decide))
                  have hne' : ∀ g, v'.ownBlock = some g → g ≠ WB := fun g e => by
                    rcases hat12 with h | h
                    · rw [h] at e; exact I4.out g e
                    · rw [h] at e; cases e; omega
                  have hEne : (Value.slice V (m1 + k) vc).ownBlock ≠ some WB := fun e => HEW.out WB e rfl
                  (try rw [hcn] at hown)
                  (try rw [List.append_assoc] at hown)
                  have hk1 : (Q2.map (shRow m1)).take (q + 1) = (Q2.map (shRow m1)).take q ++ [⟨kd, nm, jr⟩] := HTK.out
                  rw [← hk1, Nat.add_assoc] at hown
                  obtain ⟨V3, c3, rfl, _⟩ := own_slice hown
                  refine ⟨V3, c3, rfl, W12.set 0 (by simp) _, ownsRow_setCell_other hown (a := ⟨WB, 0, none⟩) (fun e => hne' WB e rfl) _, ownsRow_setCell_other E12 (a := ⟨WB, 0, none⟩) hEne _, hne', (B11.out.trans b12).setCell HWL.out _⟩)
                have hw12 : w12.cell? ⟨WB, 0, none⟩ = some (.slice V2 (n1 + q) c2) ∧ w12.frozen? ⟨WB, 0, none⟩ = false ∧ WB < w12.heap.size := by
                  have ba := (Below.refl w9.heap.size w9).alloc (Nat.le_refl _) (.cells (rowR.C ⟨kd, nm, jr⟩).toArray 50)
                  have W12 := (W11.out.on ba).grown hg12 (fun e => I4.out WB e rfl)
                  exact ⟨W12.c 0 rfl, W12.f 0 rfl, W12.1⟩
                obtain ⟨j1, j2, j3⟩ := hw12
                obtain ⟨V3, c3, rfl, FIN⟩ := FIN.out
                have FIN := Lib.hid FIN
                clear hown hg12 hat12 OWr hn6 hcl hcn W11 E11 R11 B11 x0 x1 x2 hxs g0 g1 h0 h1 I4 HTK
                go_wp2_with fail
                exact ⟨⟨q + 1, V3, c3, by omega, rfl, Lib.hid FIN.out.1, Lib.hid FIN.out.2.1, Lib.hid FIN.out.2.2.1, Lib.hid FIN.out.2.2.2.1, Lib.hid FIN.out.2.2.2.2⟩, by simp [intOf]; omega⟩
              · obtain rfl : q = n2 := by omega
                have hQt : (Q2.map (shRow m1)).take q = Q2.map (shRow m1) := List.take_of_length_le (by rw [List.length_map, HN2.out]; exact Nat.le_refl _)
                have SR : Hid (SlX rowR wr V2 (n1 + q) Q3) := Lib.hid (by
                  have h := I2.out
                  rw [hQt, ← hQ] at h
                  obtain ⟨A0, c0, e, _, _, h⟩ := slr_of_own h HN3.out
                  cases e; exact h)
                have SE : Hid (SlX exR wr V (m1 + k) E3) := Lib.hid (by
                  obtain ⟨A0, c0, e, _, _, h⟩ := slr_of_own I3.out HM3.out
                  cases e; exact h)
                have PB3 := Lib.hid (PB3.out.keep I5.out HG.out.2.2)
                have S3 := Lib.hid (S3.out.on (by rw [HL0.out]; exact I5.out)); have T3 := Lib.hid (T3.out.on (by rw [HL0.out]; exact I5.out))
                have BZ0 : Hid (Below w.heap.size w wr) := Lib.hid (below_step B6.out (by rw [HL0.out]; exact I5.out))
                have gn : n1 + q ≤ 4000 := by omega
                have gm : m1 + k ≤ 4000 := by omega
                clear hQt I2 I3 I4 I5 hQ hE hq hqn RO HEW HWL S2 PB1 PB2 F1 F2 F3 HQQ
                go_upto_region 35 with fail
                have BD : Below wr.heap.size wr wr.drew := (Below.refl _ _).drew
                obtain ⟨p0, p1⟩ := box2 (PB3.out.on BD)
                obtain ⟨p2, p3⟩ := box2 (I1.out.on BD)
                have ZZ : (wr.drew.cell? ⟨G3, 0, none⟩ = some (.slice A3 (n1 + q) ca3) ∧ wr.drew.cell? ⟨G3, 1, none⟩ = some (.slice D3 (m1 + k) cb3)) ∧ wr.drew.cell? ⟨WB, 0, none⟩ = some (.slice V2 (n1 + q) c2) ∧ wr.drew.cell? ⟨WB, 1, none⟩ = some (.slice V (m1 + k) vc) := ⟨⟨p0, p1⟩, p2, p3⟩
                have CP := tref_any (w := wr.drew) (A := A3) (B := D3) (ca := ca3) (cb := cb3) (rows := Q3) (exs := E3) (by rw [HN3.out]; exact S3.out.on BD) (by rw [HM3.out]; exact T3.out.on BD) (by rw [HN3.out]; omega) (by rw [HM3.out]; omega)
                rw [HN3.out, HM3.out] at CP
                have SR := Lib.hid (SR.out.on BD); have SE := Lib.hid (SE.out.on BD)
                have HBD := Lib.hid (below_step BZ0.out BD)
                clear BD p0 p1 p2 p3 S3 T3 PB3 I1 BZ0
                go_region_held3 (fun w' => (w'.cell? ⟨G3, 0, none⟩ = some (.slice A3 (n1 + q) ca3) ∧ w'.cell? ⟨G3, 1, none⟩ = some (.slice D3 (m1 + k) cb3)) ∧ w'.cell? ⟨WB, 0, none⟩ = some (.slice V2 (n1 + q) c2) ∧ w'.cell? ⟨WB, 1, none⟩ = some (.slice V (m1 + k) vc))
                  (first
                    | with_reducible exact ZZ
                    | with_reducible exact Z8
                    | with_reducible exact ZA
                    | with_reducible exact ZB)
                  (first
                    | (go_at_call 14; (with_reducible refine CP.mono ?_); rintro _ w8 ⟨A8, ca8, B8, cb8, rfl, s81, s82, -, -, b8⟩; have Z8 := keep22' b8 ZZ; have CS := tsame_any (ca := ca8) (cb := cb8) (ca' := c2) (cb' := vc) s81 s82 (SR.out.on b8) (SE.out.on b8) HN3.out HM3.out (Nat.le_trans gn (by decide)) (Nat.le_trans gm (by decide)))
                    | (go_at_call 13; (with_reducible refine CS.mono ?_); rintro _ w10 ⟨rfl, b10⟩; have ZA := keep22' b10 Z8; have CW := awake_any w10)
                    | (go_at_call 10; (with_reducible refine CW.mono ?_); rintro _ w11 ⟨rfl, b11⟩; have ZB := keep22' b11 ZA))
                all_goals
                  have BZ := Lib.hid (below_step (below_step (below_step HBD.out b8) b10) b11)
                  clear ZZ Z8 ZA ZB CP CS CW b8 b10 b11 s81 s82
                  go_wp2_with fail
                  go_ret
                  exact ⟨rfl, BZ.out⟩
end Go.Proofs.YtnolbjaeilgjhaaDoor
