/-
  ShowExprs: an expression's text, as a rule of its own, is read to it: of as many expressions as it is made of.
-/
import Derived.Test.YtpakepapjnakgaaDoorLR
import Derived.Deep.RegionHeld3
import Derived.Test.YtpakepapjnakgaaDoorShowParsed2G

set_option linter.unusedVariables false
namespace Go.Proofs.YtpakepapjnakgaaDoor
open Go.RowKit
open PTree (R Ex Tr Rl Row)
open PCheck (Xp)

theorem keepP {w w' : World} {p0 p1 : Addr} {a b : Value} (hb : Below w.heap.size w w') (h : w.cell? p0 = some a ∧ w.cell? p1 = some b) : w'.cell? p0 = some a ∧ w'.cell? p1 = some b :=
  ⟨(hb.cell (World.block_lt_of_cell? w _ h.1)).trans h.1, (hb.cell (World.block_lt_of_cell? w _ h.2)).trans h.2⟩
theorem cat_x (a : List UInt8) : ((⟨#[108, 101, 116, 32, 120, 32, 61, 32]⟩ : ByteArray) ++ ⟨a.toArray⟩ ++ ⟨#[59]⟩) = ⟨([108, 101, 116, 32, 120, 32, 61, 32] ++ a ++ [59]).toArray⟩ := by
  have h1 : ((⟨#[108, 101, 116, 32, 120, 32, 61, 32]⟩ : ByteArray) ++ ⟨a.toArray⟩) = ⟨([108, 101, 116, 32, 120, 32, 61, 32] ++ a).toArray⟩ := ByteArray.mk_append_mk [108, 101, 116, 32, 120, 32, 61, 32] a
  have h2 : ((⟨([108, 101, 116, 32, 120, 32, 61, 32] ++ a).toArray⟩ : ByteArray) ++ ⟨#[59]⟩) = ⟨([108, 101, 116, 32, 120, 32, 61, 32] ++ a ++ [59]).toArray⟩ := ByteArray.mk_append_mk _ [59]
  rw [h1, h2]
set_option maxRecDepth 100000 in
set_option maxHeartbeats 12800000 in
theorem exprs9_walk (s : ByteArray) (i : Int) (w : World) (ht : Tab w) (hs : s.size ≤ maxLen) (hi : (Lit.int .u16 i).wf = true) :
    Calls Tryd.prog 7 #[.string s, .int .u16 i] w (Yes w) := by
  obtain ⟨Q, hQ⟩ : ∃ Q, Yes w = Q := ⟨_, rfl⟩
  rw [hQ]
  have FIN : Hid (∀ (w' : World), Below w.heap.size w w' → Q (.returned (.bool true)) w') := Lib.hid (fun w' a => by rw [← hQ]; exact ⟨rfl, a⟩)
  have HT := Lib.hid ht
  unfold maxLen at hs
  obtain ⟨ni, rfl⟩ : ∃ ni : Nat, i = ni := ⟨i.toNat, by have := u16_bounds hi; omega⟩
  have hni : ni ≤ 65535 := by have := u16_bounds hi; omega
  clear hQ ht hi
  by_cases h6 : 400 < s.size
  · have hl : (400 : Int) < (s.size : Int) := by omega
    have AW := Lib.hid (aw9_yes w HT.out)
    go_enter Tryd.func7, Tryd.ntmps7
    go_wp2_with (go_at_call 8; refine AW.out.mono ?_)
    intro e1 w1 h1
    obtain ⟨rfl, b1⟩ := h1
    have B1 := Lib.hid b1
    clear b1 AW
    go_wp2_with fail
    exact FIN.out _ B1.out
  have hl : ¬ (400 : Int) < (s.size : Int) := by omega
  cases hp : PTree.parse s.data.toList with
  | none =>
    have PA := Lib.hid (tparse_any s w (by omega))
    have HP := Lib.hid hp
    clear hp
    go_enter Tryd.func7, Tryd.ntmps7
    go_wp2_with (go_at_call 9; refine PA.out.mono ?_)
    intro e1 w1 h1
    obtain ⟨-, h1⟩ := h1
    rw [HP.out] at h1
    exact h1.elim
  | some r =>
    cases r with
    | bad k q =>
      have PA := Lib.hid (tparse_any s w (by omega))
      have HP := Lib.hid hp
      clear hp
      go_enter Tryd.func7, Tryd.ntmps7
      go_wp2_with (go_at_call 9; refine PA.out.mono ?_)
      intro e1 w1 h1
      obtain ⟨b1, h1⟩ := h1
      rw [HP.out] at h1
      obtain ⟨rfl, hk0⟩ := h1
      obtain ⟨w2, hw2, YB, b2⟩ : ∃ w2, w1.alloc (.cells #[.slice none 0 0, .slice none 0 0] 26) = w2 ∧ Box w2 w1.heap.size [.slice none 0 0, .slice none 0 0] ∧ Below w1.heap.size w1 w2 := ⟨_, rfl, Box.new _ _ [.slice none 0 0, .slice none 0 0], (Below.refl _ _).alloc (Nat.le_refl _) _⟩
      obtain ⟨w3, hw3, Y3, ON3⟩ := store2 YB (.slice none 0 0) (.slice none 0 0)
      have b3 := ON3.below (Nat.le_refl _) b2
      have B3 := Lib.hid (below_step b1 b3)
      have AW := Lib.hid (aw9_yes w3 (HT.out.on B3.out))
      obtain ⟨y0, y1⟩ := px2 YB
      obtain ⟨z0, z1⟩ := px2f YB
      have hs2 := YB.1
      obtain ⟨q0, q1⟩ := px2 Y3
      have hs3 := Y3.1
      have HW3 := Lib.hid hw3
      have gk : ((k : Int) == 0) = false := by rw [beq_eq_false_iff_ne]; omega
      clear YB Y3 ON3 b1 b2 b3 hw3 PA
      go_upto_region 4 with fail
      rw [HW3.out]
      clear HW3 hw2 y0 y1 z0 z1 hs2
      go_wp2_with (go_at_call 8; refine AW.out.mono ?_)
      intro e4 w4 h4
      obtain ⟨rfl, b4⟩ := h4
      have B4 := Lib.hid (below_step B3.out b4)
      clear b4 AW
      go_wp2_with fail
      exact FIN.out _ B4.out
    | ok t rs =>
      obtain ⟨rl, hrl⟩ : ∃ rl, rs.length = rl := ⟨_, rfl⟩
      obtain ⟨sz, hsz⟩ : ∃ sz, PTree.sizeOf rs = sz := ⟨_, rfl⟩
      have hsl : s.data.toList.length ≤ 400 := by rw [Array.length_toList]; show s.size ≤ 400; omega
      have PA := Lib.hid (tparse_rows hp (by omega) w hrl hsz)
      have HP := Lib.hid hp; have HRL := Lib.hid hrl; have HSZ := Lib.hid hsz; have HSL := Lib.hid hsl
      clear hp hrl hsz hsl
      by_cases hz0 : sz = 0
      · subst hz0
        go_enter Tryd.func7, Tryd.ntmps7
        go_wp2_with (go_at_call 9; refine PA.out.mono ?_)
        intro e1 w1 h1
        obtain ⟨A1, ca1, B1, cb1, rfl, s1, s2, b1⟩ := h1
        obtain ⟨w2, hw2, YB, b2⟩ : ∃ w2, w1.alloc (.cells #[.slice none 0 0, .slice none 0 0] 26) = w2 ∧ Box w2 w1.heap.size [.slice none 0 0, .slice none 0 0] ∧ Below w1.heap.size w1 w2 := ⟨_, rfl, Box.new _ _ [.slice none 0 0, .slice none 0 0], (Below.refl _ _).alloc (Nat.le_refl _) _⟩
        obtain ⟨w3, hw3, Y3, ON3⟩ := store2 YB (.slice A1 rl ca1) (.slice B1 0 cb1)
        have b3 := ON3.below (Nat.le_refl _) b2
        have B3 := Lib.hid (below_step b1 b3)
        have AW := Lib.hid (aw9_yes w3 (HT.out.on B3.out))
        obtain ⟨y0, y1⟩ := px2 YB
        obtain ⟨z0, z1⟩ := px2f YB
        have hs2 := YB.1
        obtain ⟨q0, q1⟩ := px2 Y3
        have hs3 := Y3.1
        have HW3 := Lib.hid hw3
        clear YB Y3 ON3 b1 b2 b3 hw3 PA s1 s2
        go_upto_region 4 with fail
        rw [HW3.out]
        clear HW3 hw2 y0 y1 z0 z1 hs2
        go_wp2_with (go_at_call 8; refine AW.out.mono ?_)
        intro e4 w4 h4
        obtain ⟨rfl, b4⟩ := h4
        have B4 := Lib.hid (below_step B3.out b4)
        clear b4 AW
        go_wp2_with fail
        exact FIN.out _ B4.out
      · have hmod : ni % sz < sz := Nat.mod_lt _ (by omega)
        obtain ⟨j, hj⟩ : ∃ j, ni % sz = j := ⟨_, rfl⟩
        rw [hj] at hmod
        have hjI : (ni : Int) % (sz : Int) = (j : Int) := by rw [← hj]; exact (Int.natCast_emod ni sz).symm
        have hjT : Int.tmod (ni : Int) (sz : Int) = (j : Int) := by rw [Int.tmod_eq_emod_of_nonneg (by omega)]; exact hjI
        have hgz : ((sz : Int) == 0) = false := by rw [beq_eq_false_iff_ne]; omega
        have gz : ¬ (sz : Int) = 0 := by omega
        obtain ⟨a, m1, m2, m3, m4⟩ := PShow.expr_back (PShow.got HP.out) (j := j) (by rw [HSZ.out]; exact hmod)
        have hfew := PTree.parse_fewP HP.out
        have hsl := HSL.out
        have htx := read_tx (PShow.got HP.out) (k := j) (by rw [HSZ.out]; exact hmod)
        have exx : (PTree.exprsOf 0 rs).map PShow.exX = xpX rs := rfl
        rw [exx] at m1
        rw [m1] at htx
        obtain ⟨X, hX⟩ : ∃ X, PTree.txB a = X := ⟨_, rfl⟩
        rw [hX] at m1 m3 m4 htx
        have hXl : X.length ≤ 3600 := by omega
        have PX := Lib.hid (fun (wa : World) (A B : Option Addr) (ca cb : Nat) (h1 : SlX rowR wa A rl (PTree.rowsOf 0 rs)) (h2 : SlX exR wa B sz (PTree.exprsOf 0 rs)) (h3 : Tab wa) => show Calls Tryd.prog 13 #[.agg #[.slice A rl ca, .slice B sz cb], .int .i64 (j : Int)] wa (TextAns (some X) wa) from by
          have k := pexpr (rc := ca) (c := cb) HP.out (by omega) h1 h2 h3 (j : Int)
          rw [if_pos ⟨by omega, by rw [HSZ.out]; omega⟩, Int.toNat_natCast, m1] at k
          exact k)
        obtain ⟨sa, hsa⟩ : ∃ sa, a.size = sa := ⟨_, rfl⟩
        have hsa1 : 1 ≤ sa := by rw [← hsa]; exact a.size_pos
        have hz2 : PTree.sizeOf [⟨[108, 101, 116], [120], a⟩] = sa := by rw [← hsa]; simp [PTree.sizeOf]
        rw [hsa] at m2 m4
        have hsasz : sa ≤ sz := by rw [← HSZ.out]; exact m2
        obtain ⟨m, rfl⟩ : ∃ m, sa = m + 1 := ⟨sa - 1, by omega⟩
        rw [Nat.add_sub_cancel] at m4
        have hT2 : (PTree.textB [⟨[108, 101, 116], [120], a⟩]).length ≤ 4000 := by
          simp only [PTree.textB, PTree.ruleB, List.length_append, List.length_cons, List.length_nil, hX]; omega
        have PB := Lib.hid (fun (wa : World) => tparse_rows (s := ⟨([108, 101, 116, 32, 120, 32, 61, 32] ++ X ++ [59]).toArray⟩) m3 (by show (List.toArray _).size ≤ 4000; simp only [List.size_toArray, List.length_append, List.length_cons, List.length_nil]; omega) wa (rl := 1) (sz := m + 1) rfl hz2)
        have PY := Lib.hid (fun (wa : World) (A B : Option Addr) (ca cb : Nat) (h1 : SlX rowR wa A 1 (PTree.rowsOf 0 [⟨[108, 101, 116], [120], a⟩])) (h2 : SlX exR wa B (m + 1) (PTree.exprsOf 0 [⟨[108, 101, 116], [120], a⟩])) (h3 : Tab wa) => show Calls Tryd.prog 13 #[.agg #[.slice A 1 ca, .slice B (m + 1) cb], .int .i64 (m : Int)] wa (TextAns (some X) wa) from by
          have k := pexpr2 (rc := ca) (c := cb) m3 (by simp only [List.length_append, List.length_cons, List.length_nil]; omega) (by rw [hz2]; omega) (by simp) hT2 h1 h2 h3 (m : Int)
          have exx2 : (PTree.exprsOf 0 [⟨[108, 101, 116], [120], a⟩]).map PShow.exX = xpX [⟨[108, 101, 116], [120], a⟩] := rfl
          rw [exx2] at m4
          rw [if_pos ⟨by omega, by rw [hz2]; omega⟩, Int.toNat_natCast, m4] at k
          exact k)
        have hszI : ((m : Int) + 1) ≤ (sz : Int) := by omega
        have hsz400 : sz ≤ 400 := by have := HSZ.out; omega
        have hwr : IntKind.i64.wrap (ni : Int) = (ni : Int) := by rw [IntKind.wrap_i64]; omega
        rw [← cat_x] at PB
        obtain ⟨rs2, hrs2⟩ : ∃ rs2 : List Rl, [⟨[108, 101, 116], [120], a⟩] = rs2 := ⟨_, rfl⟩
        rw [hrs2] at PB PY
        clear hmod hj m1 m2 m3 m4 hfew hsl htx exx hX hsa hsa1 hz2 hT2 hrs2
        have hl0 : (ByteArray.mk X.toArray).size = X.length := by simp [ByteArray.size]
        have gl1 : ¬ 9223372036854775807 < 8 + X.length := by omega
        have gl2 : ¬ 9223372036854775807 < 8 + X.length + 1 := by omega
        go_enter Tryd.func7, Tryd.ntmps7
        go_wp2_with (go_at_call 9; refine PA.out.mono ?_)
        intro e1 w1 h1
        obtain ⟨A1, ca1, B1, cb1, rfl, s1, s2, b1⟩ := h1
        obtain ⟨w2, hw2, YB, b2⟩ : ∃ w2, w1.alloc (.cells #[.slice none 0 0, .slice none 0 0] 26) = w2 ∧ Box w2 w1.heap.size [.slice none 0 0, .slice none 0 0] ∧ Below w1.heap.size w1 w2 := ⟨_, rfl, Box.new _ _ [.slice none 0 0, .slice none 0 0], (Below.refl _ _).alloc (Nat.le_refl _) _⟩
        obtain ⟨w3, hw3, Y3, ON3⟩ := store2 YB (.slice A1 rl ca1) (.slice B1 sz cb1)
        have b3 := ON3.below (Nat.le_refl _) b2
        have B3 := Lib.hid (below_step b1 b3)
        have BD : Below w3.heap.size w3 w3.drew := (Below.refl _ _).drew
        have T3 := HT.out.on (below_step B3.out BD)
        have CX := PX.out w3.drew A1 B1 ca1 cb1 ((s1.on b3).on BD) ((s2.on b3).on BD) T3
        have HT3 := Lib.hid T3
        have HY3 := Lib.hid (Y3.on BD)
        have HB3 := Lib.hid (below_step B3.out BD)
        obtain ⟨y0, y1⟩ := px2 YB
        obtain ⟨z0, z1⟩ := px2f YB
        have hs2 := YB.1
        obtain ⟨q0, q1⟩ := px2 Y3
        have hs3 := Y3.1
        have ZZ : w3.drew.cell? ⟨w1.heap.size, 0, none⟩ = some (.slice A1 rl ca1) ∧ w3.drew.cell? ⟨w1.heap.size, 1, none⟩ = some (.slice B1 sz cb1) := ⟨q0, q1⟩
        have HW3 := Lib.hid hw3
        clear YB Y3 ON3 b1 b2 b3 hw3 PA s1 s2 T3 PX BD
        go_upto_region 4 with fail
        rw [HW3.out]
        clear HW3 hw2 y0 y1 z0 z1 hs2
        go_upto_region 6 with fail
        go_region_held3 (fun w' => w'.cell? ⟨w1.heap.size, 0, none⟩ = some (.slice A1 rl ca1) ∧ w'.cell? ⟨w1.heap.size, 1, none⟩ = some (.slice B1 sz cb1))
          (first
            | with_reducible exact ZZ
            | with_reducible exact Z4)
          (first
            | (go_at_call 13; (with_reducible refine CX.mono ?_); intro e4 w4 h4; obtain ⟨rfl, b4⟩ := h4; have Z4 := keepP b4 ZZ))
        have HZ4 := Lib.hid Z4
        have B4 := Lib.hid (below_step HB3.out b4)
        have HT4 := Lib.hid (HT3.out.on b4)
        have PB4 := Lib.hid (PB.out w4)
        clear ZZ Z4 b4 CX HT3 HB3 q0 q1 hs3 PB HY3 hjT hjI hwr
        go_wp2_with (go_at_call 9; refine PB4.out.mono ?_)
        intro e5 w5 h5
        obtain ⟨A2, ca2, B2, cb2, rfl, s3, s4, b5⟩ := h5
        obtain ⟨w6, hw6, ZB, b6⟩ : ∃ w6, w5.alloc (.cells #[.slice none 0 0, .slice none 0 0] 26) = w6 ∧ Box w6 w5.heap.size [.slice none 0 0, .slice none 0 0] ∧ Below w5.heap.size w5 w6 := ⟨_, rfl, Box.new _ _ [.slice none 0 0, .slice none 0 0], (Below.refl _ _).alloc (Nat.le_refl _) _⟩
        obtain ⟨w7, hw7, Z7, ON7⟩ := store2 ZB (.slice A2 1 ca2) (.slice B2 (m + 1) cb2)
        have b7 := ON7.below (Nat.le_refl _) b6
        have b57 := below_step b5 b7
        have B7 := Lib.hid (below_step B4.out b57)
        have T7 := HT4.out.on b57
        have PY7 := Lib.hid (PY.out w7 A2 B2 ca2 cb2 (s3.on b7) (s4.on b7) T7)
        have HT7 := Lib.hid T7
        have HZ7 := Lib.hid Z7
        have HP7 := Lib.hid (keepP b57 HZ4.out)
        obtain ⟨y0, y1⟩ := px2 ZB
        obtain ⟨z0, z1⟩ := px2f ZB
        have hs6 := ZB.1
        obtain ⟨q0, q1⟩ := px2 Z7
        have hs7 := Z7.1
        have HW7 := Lib.hid hw7
        clear ZB Z7 ON7 b5 b6 b7 b57 hw7 PB4 s3 s4 T7 HT4 HZ4 PY gl1 gl2 hl0
        go_upto_region 8 with fail
        rw [HW7.out]
        clear HW7 hw6 y0 y1 z0 z1 hs6
        go_wp2_with (go_at_call 13; refine PY7.out.mono ?_)
        intro e8 w8 h8
        obtain ⟨rfl, b8⟩ := h8
        have B8 := Lib.hid (below_step B7.out b8)
        have AW8 := Lib.hid (aw9_yes w8 (HT7.out.on b8))
        have Z8 := HZ7.out.on b8
        obtain ⟨p0, p1⟩ := keepP b8 HP7.out
        have hsp := World.block_lt_of_cell? w8 _ p0
        clear b8 q0 q1 hs7 HZ7 HP7 PY7 HT7
        obtain ⟨q0, q1⟩ := px2 Z8
        have hs8 := Z8.1
        clear Z8
        go_wp2_with (go_at_call 8; refine AW8.out.mono ?_)
        intro e9 w9 h9
        obtain ⟨rfl, b9⟩ := h9
        have B9 := Lib.hid (below_step B8.out b9)
        clear b9 AW8
        go_wp2_with fail
        exact FIN.out _ B9.out
end Go.Proofs.YtpakepapjnakgaaDoor
