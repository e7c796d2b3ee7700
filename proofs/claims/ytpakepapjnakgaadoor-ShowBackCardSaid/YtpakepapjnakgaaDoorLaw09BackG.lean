/-
  ShowBack: what is read of any text has a text, that is read to it, and whose text it is.
-/
import Derived.Test.YtpakepapjnakgaaDoorLR
import Derived.Deep.RegionHeld3

set_option linter.unusedVariables false
namespace Go.Proofs.YtpakepapjnakgaaDoor
open Go.RowKit
open PTree (R Ex Tr Rl Row)
open PCheck (Xp)

set_option maxRecDepth 100000 in
set_option maxHeartbeats 12800000 in
theorem back9_walk (s : ByteArray) (w : World) (ht : Tab w) (hs : s.size ≤ maxLen) :
    Calls Tryd.prog 3 #[.string s] w (Yes w) := by
  obtain ⟨Q, hQ⟩ : ∃ Q, Yes w = Q := ⟨_, rfl⟩
  rw [hQ]
  have FIN : Hid (∀ (w' : World), Below w.heap.size w w' → Q (.returned (.bool true)) w') := Lib.hid (fun w' a => by rw [← hQ]; exact ⟨rfl, a⟩)
  have HT := Lib.hid ht
  unfold maxLen at hs
  clear hQ ht
  by_cases h6 : 500 < s.size
  · have hl : (500 : Int) < (s.size : Int) := by omega
    have AW := Lib.hid (aw9_yes w HT.out)
    go_enter Tryd.func3, Tryd.ntmps3
    go_wp2_with (go_at_call 8; refine AW.out.mono ?_)
    intro e1 w1 h1
    obtain ⟨rfl, b1⟩ := h1
    have B1 := Lib.hid b1
    clear b1 AW
    go_wp2_with fail
    exact FIN.out _ B1.out
  have hl : ¬ (500 : Int) < (s.size : Int) := by omega
  cases hp : PTree.parse s.data.toList with
  | none =>
    have PA := Lib.hid (tparse_any s w (by omega))
    have HP := Lib.hid hp
    clear hp
    go_enter Tryd.func3, Tryd.ntmps3
    go_wp2_with (go_at_call 9; refine PA.out.mono ?_)
    intro e1 w1 h1
    obtain ⟨-, h1⟩ := h1
    rw [HP.out] at h1
    exact h1.elim
  | some r =>
    cases r with
    | bad k q =>
      have PA := Lib.hid (tparse_any s w (by omega))
      have HP := Lib.hid hp
      clear hp
      go_enter Tryd.func3, Tryd.ntmps3
      go_wp2_with (go_at_call 9; refine PA.out.mono ?_)
      intro e1 w1 h1
      obtain ⟨b1, h1⟩ := h1
      rw [HP.out] at h1
      obtain ⟨rfl, hk0⟩ := h1
      obtain ⟨w2, hw2, YB, b2⟩ : ∃ w2, w1.alloc (.cells #[.slice none 0 0, .slice none 0 0] 26) = w2 ∧ Box w2 w1.heap.size [.slice none 0 0, .slice none 0 0] ∧ Below w1.heap.size w1 w2 := ⟨_, rfl, Box.new _ _ [.slice none 0 0, .slice none 0 0], (Below.refl _ _).alloc (Nat.le_refl _) _⟩
      obtain ⟨w3, hw3, Y3, ON3⟩ := store2 YB (.slice none 0 0) (.slice none 0 0)
      have b3 := ON3.below (Nat.le_refl _) b2
      have B3 := Lib.hid (below_step b1 b3)
      have AW := Lib.hid (aw9_yes w3 (HT.out.on B3.out))
      obtain ⟨y0, y1⟩ := px2 YB
      obtain ⟨z0, z1⟩ := px2f YB
      have hs2 := YB.1
      obtain ⟨q0, q1⟩ := px2 Y3
      have hs3 := Y3.1
      have HW3 := Lib.hid hw3
      have gk : ((k : Int) == 0) = false := by rw [beq_eq_false_iff_ne]; omega
      clear YB Y3 ON3 b1 b2 b3 hw3 PA
      go_upto_region 4 with fail
      rw [HW3.out]
      clear HW3 hw2 y0 y1 z0 z1 hs2
      go_wp2_with (go_at_call 8; refine AW.out.mono ?_)
      intro e4 w4 h4
      obtain ⟨rfl, b4⟩ := h4
      have B4 := Lib.hid (below_step B3.out b4)
      clear b4 AW
      go_wp2_with fail
      exact FIN.out _ B4.out
    | ok t rs =>
      obtain ⟨rl, hrl⟩ : ∃ rl, rs.length = rl := ⟨_, rfl⟩
      obtain ⟨sz, hsz⟩ : ∃ sz, PTree.sizeOf rs = sz := ⟨_, rfl⟩
      have hsl : s.data.toList.length ≤ 500 := by rw [Array.length_toList]; show s.size ≤ 500; omega
      have PA := Lib.hid (tparse_rows hp (by omega) w hrl hsz)
      obtain ⟨T, hT⟩ : ∃ T, PTree.textB rs = T := ⟨_, rfl⟩
      have TX := Lib.hid (fun (wa : World) (A B : Option Addr) (ca cb : Nat) (h1 : SlX rowR wa A rl (PTree.rowsOf 0 rs)) (h2 : SlX exR wa B sz (PTree.exprsOf 0 rs)) (h3 : Tab wa) => ptext (rc := ca) (c := cb) hp hsl h1 h2 h3)
      have hb := PTree.parse_back hp
      have hlen := (PShow.got hp).len
      have hfew := PTree.parse_fewP hp
      rw [hT] at TX hb hlen
      rw [hrl, hsz] at hfew
      have PB := Lib.hid (fun (wa : World) => tparse_rows (s := ⟨T.toArray⟩) hb (by show T.toArray.size ≤ 4000; simp; omega) wa hrl hsz)
      have hrl9 : rl ≤ 500 := by omega
      have hsz9 : sz ≤ 500 := by omega
      have HRL := Lib.hid hrl; have HSZ := Lib.hid hsz
      clear hp hb hlen hfew hT hrl hsz hsl
      go_enter Tryd.func3, Tryd.ntmps3
      go_wp2_with (go_at_call 9; refine PA.out.mono ?_)
      intro e1 w1 h1
      obtain ⟨A1, ca1, B1, cb1, rfl, s1, s2, b1⟩ := h1
      obtain ⟨w2, hw2, YB, b2⟩ : ∃ w2, w1.alloc (.cells #[.slice none 0 0, .slice none 0 0] 26) = w2 ∧ Box w2 w1.heap.size [.slice none 0 0, .slice none 0 0] ∧ Below w1.heap.size w1 w2 := ⟨_, rfl, Box.new _ _ [.slice none 0 0, .slice none 0 0], (Below.refl _ _).alloc (Nat.le_refl _) _⟩
      obtain ⟨w3, hw3, Y3, ON3⟩ := store2 YB (.slice A1 rl ca1) (.slice B1 sz cb1)
      have b3 := ON3.below (Nat.le_refl _) b2
      have B3 := Lib.hid (below_step b1 b3)
      have S1 := Lib.hid (s1.on b3); have S2 := Lib.hid (s2.on b3)
      have T3 := HT.out.on B3.out
      have TX3 := Lib.hid (TX.out w3 A1 B1 ca1 cb1 S1.out S2.out T3)
      have HT3 := Lib.hid T3
      have HY3 := Lib.hid Y3
      obtain ⟨y0, y1⟩ := px2 YB
      obtain ⟨z0, z1⟩ := px2f YB
      have hs2 := YB.1
      obtain ⟨q0, q1⟩ := px2 Y3
      have hs3 := Y3.1
      have HW3 := Lib.hid hw3
      clear YB Y3 ON3 b1 b2 b3 hw3 PA s1 s2 T3
      go_upto_region 4 with fail
      rw [HW3.out]
      clear HW3 hw2 y0 y1 z0 z1 hs2
      go_wp2_with (go_at_call 10; refine TX3.out.mono ?_)
      intro e4 w4 h4
      obtain ⟨rfl, b4⟩ := h4
      have B4 := Lib.hid (below_step B3.out b4)
      have S14 := Lib.hid (S1.out.on b4); have S24 := Lib.hid (S2.out.on b4)
      have HY4 := Lib.hid (HY3.out.on b4)
      have HT4 := Lib.hid (HT3.out.on b4)
      have PB4 := Lib.hid (PB.out w4)
      clear b4 TX3 S1 S2 HY3 HT3 q0 q1 hs3 PB
      go_wp2_with (go_at_call 9; refine PB4.out.mono ?_)
      intro e5 w5 h5
      obtain ⟨A2, ca2, B2, cb2, rfl, s3, s4, b5⟩ := h5
      obtain ⟨w6, hw6, ZB, b6⟩ : ∃ w6, w5.alloc (.cells #[.slice none 0 0, .slice none 0 0] 26) = w6 ∧ Box w6 w5.heap.size [.slice none 0 0, .slice none 0 0] ∧ Below w5.heap.size w5 w6 := ⟨_, rfl, Box.new _ _ [.slice none 0 0, .slice none 0 0], (Below.refl _ _).alloc (Nat.le_refl _) _⟩
      obtain ⟨w7, hw7, Z7, ON7⟩ := store2 ZB (.slice A2 rl ca2) (.slice B2 sz cb2)
      have b7 := ON7.below (Nat.le_refl _) b6
      have b57 := below_step b5 b7
      have B7 := Lib.hid (below_step B4.out b57)
      have S17 := Lib.hid (S14.out.on b57); have S27 := Lib.hid (S24.out.on b57)
      have S37 := Lib.hid (s3.on b7); have S47 := Lib.hid (s4.on b7)
      have T7 := HT4.out.on b57
      have TX7 := Lib.hid (TX.out w7 A2 B2 ca2 cb2 S37.out S47.out T7)
      have HT7 := Lib.hid T7
      have HY7 := Lib.hid (HY4.out.on b57)
      have HZ7 := Lib.hid Z7
      obtain ⟨y0, y1⟩ := px2 ZB
      obtain ⟨z0, z1⟩ := px2f ZB
      have hs6 := ZB.1
      obtain ⟨q0, q1⟩ := px2 Z7
      have hs7 := Z7.1
      have HW7 := Lib.hid hw7
      clear ZB Z7 ON7 b5 b6 b7 b57 hw7 PB4 s3 s4 T7 S14 S24 HT4 HY4 TX
      go_upto_region 8 with fail
      rw [HW7.out]
      clear HW7 hw6 y0 y1 z0 z1 hs6
      go_wp2_with (go_at_call 10; refine TX7.out.mono ?_)
      intro e8 w8 h8
      obtain ⟨rfl, b8⟩ := h8
      have B8 := Lib.hid (below_step B7.out b8)
      have BD : Below w8.heap.size w8 w8.drew := (Below.refl _ _).drew
      obtain ⟨p0, p1⟩ := px2 ((HY7.out.on b8).on BD)
      obtain ⟨r0, r1⟩ := px2 ((HZ7.out.on b8).on BD)
      obtain ⟨G, hG⟩ : ∃ G, w1.heap.size = G := ⟨_, rfl⟩
      obtain ⟨H, hH⟩ : ∃ H, w5.heap.size = H := ⟨_, rfl⟩
      rw [hG] at p0 p1
      rw [hH] at r0 r1
      have ZZ : (w8.drew.cell? ⟨G, 0, none⟩ = some (.slice A1 rl ca1) ∧ w8.drew.cell? ⟨G, 1, none⟩ = some (.slice B1 sz cb1)) ∧ w8.drew.cell? ⟨H, 0, none⟩ = some (.slice A2 rl ca2) ∧ w8.drew.cell? ⟨H, 1, none⟩ = some (.slice B2 sz cb2) := ⟨⟨p0, p1⟩, r0, r1⟩
      have e1 : (PTree.rowsOf 0 rs).length = rl := by rw [rowsOf_len0, HRL.out]
      have e2 : (PTree.exprsOf 0 rs).length = sz := by rw [PTree.exprsOf_len, HSZ.out]
      obtain ⟨rows, hrows⟩ : ∃ x, PTree.rowsOf 0 rs = x := ⟨_, rfl⟩
      obtain ⟨exs, hexs⟩ : ∃ x, PTree.exprsOf 0 rs = x := ⟨_, rfl⟩
      have S18 := (S17.out.on b8).on BD; have S28 := (S27.out.on b8).on BD
      have S38 := (S37.out.on b8).on BD; have S48 := (S47.out.on b8).on BD
      rw [hrows] at S18 S38 e1
      rw [hexs] at S28 S48 e2
      subst e1; subst e2
      have CP := tref_any (ca := ca1) (cb := cb1) S18 S28 (by omega) (by omega)
      have S3 := Lib.hid S38; have S4 := Lib.hid S48
      have HBD := Lib.hid (below_step B8.out BD)
      have HT8 := Lib.hid ((HT7.out.on b8).on BD)
      clear b8 BD p0 p1 r0 r1 S17 S27 S37 S47 HY7 HZ7 B8 q0 q1 hs7 S18 S28 S38 S48 hrows hexs TX7 HRL HSZ HT7
      go_upto_region 9 with fail
      (try rw [hG])
      (try rw [hH])
      clear hG hH
      go_region_held3 (fun w' => (w'.cell? ⟨G, 0, none⟩ = some (.slice A1 rows.length ca1) ∧ w'.cell? ⟨G, 1, none⟩ = some (.slice B1 exs.length cb1)) ∧ w'.cell? ⟨H, 0, none⟩ = some (.slice A2 rows.length ca2) ∧ w'.cell? ⟨H, 1, none⟩ = some (.slice B2 exs.length cb2))
        (first
          | with_reducible exact ZZ
          | with_reducible exact Z8
          | with_reducible exact Z9
          | with_reducible exact ZA
          | with_reducible exact ZB)
        (first
          | (go_at_call 12; (with_reducible refine CP.mono ?_); rintro _ w9 ⟨A8, ca8, B8, cb8, rfl, s81, s82, -, -, b8⟩; have Z8 := keep22 b8 ZZ; have CQ := tref_any (ca := ca2) (cb := cb2) (S3.out.on b8) (S4.out.on b8) (by omega) (by omega))
          | (go_at_call 12; (with_reducible refine CQ.mono ?_); rintro _ w10 ⟨A9, ca9, B9, cb9, rfl, s91, s92, -, -, b9⟩; have Z9 := keep22 b9 Z8; have CS := tsame_any (ca := ca8) (cb := cb8) (ca' := ca9) (cb' := cb9) (s81.on b9) (s82.on b9) s91 s92 rfl rfl (by omega) (by omega))
          | (go_at_call 11; (with_reducible refine CS.mono ?_); rintro _ w11 ⟨rfl, b10⟩; have ZA := keep22 b10 Z9; have CW := aw9_any w11 (HT8.out.on (below_step (below_step b8 b9) b10)))
          | (go_at_call 8; (with_reducible refine CW.mono ?_); rintro _ w12 ⟨rfl, b11⟩; have ZB := keep22 b11 ZA))
      all_goals
        have BZ := Lib.hid (below_step (below_step (below_step (below_step HBD.out b8) b9) b10) b11)
        clear ZZ Z8 Z9 ZA ZB CP CQ CS CW b8 b9 b10 b11 s81 s82 s91 s92
        go_wp2_with fail
        exact FIN.out _ BZ.out
end Go.Proofs.YtpakepapjnakgaaDoor
