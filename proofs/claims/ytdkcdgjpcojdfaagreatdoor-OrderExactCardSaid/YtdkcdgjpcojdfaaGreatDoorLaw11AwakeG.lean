/-
  The fixed answer of stage 11's statements is true.
-/
import Derived.Test.YtdkcdgjpcojdfaaGreatDoorOH

set_option linter.unusedVariables false
namespace Go.Proofs.YtdkcdgjpcojdfaaGreatDoor
open Go.RowKit
open PTree (R Ex Tr Rl Row)
open PCheck (Xp)

def CapAns (rs : List Rl) (rl sz : Nat) (w : World) (e : Ending) (w' : World) : Prop := ∃ A ca B cb, e = .returned (.tuple #[.agg #[.slice A rl ca, .slice B sz cb], .int .i64 0, .int .i64 0]) ∧ sz ≤ cb ∧ SlX rlR w' A rl (rwX rs) ∧ SlX xpR w' B sz (xpX rs) ∧ Below w.heap.size w w'
theorem tparse_fit {s : ByteArray} {rs : List Rl} {t : List PLex.Tok} (h : PTree.parse s.data.toList = some (.ok t rs)) (hs : s.size ≤ 4000) (w : World) {rl sz : Nat} (hl : rs.length = rl) (hz : PTree.sizeOf rs = sz) :
    Calls Tryz.prog 10 #[.string s] w (CapAns rs rl sz w) := by
  subst hl; subst hz
  refine (tparse_cap h hs w).mono ?_
  rintro e w' ⟨A, ca, B, cb, he, -, -, -, h2, h3, h4, h5⟩
  exact ⟨A, ca, B, cb, he, h2, slx_rw h3, slx_xpX h4, h5⟩
theorem same_eq {w : World} {a b : Option Addr} {n ca cb : Nat} {l : List Int} (ha : SlX intR w a n l) (hb : SlX intR w b n l) (hn : n ≤ 100000) :
    Calls Tryz.prog 15 #[.slice a n ca, .slice b n cb] w (BoolAns true w) := by
  obtain ⟨Q, hQ⟩ : ∃ Q, BoolAns true w = Q := ⟨_, rfl⟩
  rw [hQ]
  have FIN : Hid (∀ (w' : World), Below w.heap.size w w' → Q (.returned (.bool true)) w') := Lib.hid (fun w' a => by rw [← hQ]; exact ⟨rfl, a⟩)
  have HA := Lib.hid ha; have HB := Lib.hid hb
  clear hQ ha hb
  go_enter Tryz.func15, Tryz.ntmps15
  go_wp2_with fail
  go_loopw [5] (fun i wr => ∃ j : Nat, j ≤ n ∧ i = .int .i64 j ∧ Hid (Below w.heap.size w wr)) (fun i _ => n - (intOf i).toNat)
  case atStart => exact ⟨0, Nat.zero_le _, rfl, Lib.hid (Below.refl _ _)⟩
  case round =>
    obtain ⟨j, hj, rfl, I1⟩ := hrel
    by_cases hlt : j < n
    · obtain ⟨b1, o1, x, rfl, hx, c1⟩ := int_at (HA.out.on I1.out) hlt
      obtain ⟨b2, o2, y, rfl, hy, c2⟩ := int_at (HB.out.on I1.out) hlt
      rw [hx] at hy
      cases hy
      have s1 := World.block_lt_of_cell? wr _ c1; have s2 := World.block_lt_of_cell? wr _ c2
      have i1 : (0 : Int) ≤ (j : Int) := by omega
      have i2 : (j : Int) < (n : Int) := by omega
      have hb0 : (x != x) = false := by simp
      clear hx
      go_wp2_with fail
      go_quiet (fail)
      have HBQ := Lib.hid (I1.out.trans ((below_drewX wr nq).mono I1.out.size))
      go_wp2_with fail
      exact ⟨⟨j + 1, by omega, rfl, HBQ⟩, by simp [intOf]; omega⟩
    · obtain rfl : j = n := by omega
      have i2 : ¬ (j : Int) < (j : Int) := by omega
      clear hlt
      go_wp2_with fail
      exact FIN.out _ I1.out
def NilAns4 (w : World) (e : Ending) (w' : World) : Prop := e = .returned (.tuple #[.slice none 0 0, .slice none 0 0, .int .i64 0, .int .i64 1]) ∧ Below w.heap.size w w'
theorem kcheck_bad {w : World} {n c rn rc : Nat} {A RA : Option Addr} (hT : ∀ wz, Below w.heap.size w wz → Calls Tryz.prog 30 #[.agg #[.slice RA rn rc, .slice A n c]] wz (TextAns none wz)) :
    Calls Tryz.prog 13 #[.agg #[.slice RA rn rc, .slice A n c]] w (NilAns4 w) := by
  obtain ⟨Q, hQ⟩ : ∃ Q, NilAns4 w = Q := ⟨_, rfl⟩
  rw [hQ]
  have FIN : Hid (∀ w' : World, Below w.heap.size w w' → Q (.returned (.tuple #[.slice none 0 0, .slice none 0 0, .int .i64 0, .int .i64 1])) w') := Lib.hid (fun w' a => by rw [← hQ]; exact ⟨rfl, a⟩)
  obtain ⟨w1, hw1, XB, b1⟩ : ∃ w1, w.alloc (.cells #[.slice RA rn rc, .slice A n c] 32) = w1 ∧ Box w1 w.heap.size [.slice RA rn rc, .slice A n c] ∧ Below w.heap.size w w1 := ⟨_, rfl, Box.new _ _ [.slice RA rn rc, .slice A n c], (Below.refl _ _).alloc (Nat.le_refl _) _⟩
  have CT := Lib.hid (ksort_bad (w := w1) (rc := rc) (c := c) (fun wz hz => hT wz (below_step b1 hz)))
  have B1 := Lib.hid b1; have HW1 := Lib.hid hw1
  obtain ⟨x0, x1⟩ := px2 XB
  have hsx := XB.1
  clear hQ hT XB b1 hw1
  go_enter Tryz.func13, Tryz.ntmps13
  go_upto_region 1 with fail
  rw [HW1.out]
  go_wp2_with (go_at_call 11; refine CT.out.mono ?_)
  intro e2 w2 h2
  obtain ⟨rfl, b2⟩ := h2
  have B2 := Lib.hid (below_step B1.out b2)
  clear b2 CT
  go_wp2_with fail
  refine bodyPost_ret (by simp [results, Tryz.results13, go_sem]; try rfl) rfl ?_
  exact FIN.out _ B2.out
def aw11A : List Rl := [⟨[108, 101, 116], [97], .name [98]⟩, ⟨[108, 101, 116], [98], .whole 1⟩]
def aw11B : List Rl := [⟨[108, 101, 116], [97], .name [97]⟩]
theorem aw11_a : PTree.parse [108, 101, 116, 32, 97, 32, 61, 32, 98, 59, 32, 108, 101, 116, 32, 98, 32, 61, 32, 49, 59] = some (.ok [] aw11A) := by decide +kernel
theorem aw11_b : PTree.parse [108, 101, 116, 32, 97, 32, 61, 32, 97, 59] = some (.ok [] aw11B) := by decide +kernel
theorem aw11_ansA : POrd.ans (nmR (rwX aw11A)) (POrd.hangs aw11A) = ([1, 0], 0, 0) := by decide +kernel
theorem aw11_ansB : POrd.ans (nmR (rwX aw11B)) (POrd.hangs aw11B) = ([], 0, 8) := by decide +kernel
theorem aw11_none : textOf [] [([], [], 0)] = none := by decide +kernel
set_option maxHeartbeats 6400000 in
set_option maxRecDepth 100000 in
theorem aw11_any (w : World) (ht : Tab2 w) : Calls Tryz.prog 8 #[] w (BoolAns true w) := by
  obtain ⟨Q, hQ⟩ : ∃ Q, BoolAns true w = Q := ⟨_, rfl⟩
  rw [hQ]
  have FIN : Hid (∀ (w' : World), Below w.heap.size w w' → Q (.returned (.bool true)) w') := Lib.hid (fun w' a => by rw [← hQ]; exact ⟨rfl, a⟩)
  have HT := Lib.hid ht
  have P1 := Lib.hid (tparse_fit (s := { data := #[108, 101, 116, 32, 97, 32, 61, 32, 98, 59, 32, 108, 101, 116, 32, 98, 32, 61, 32, 49, 59] }) aw11_a (by decide) w (rl := 2) (sz := 2) rfl rfl)
  have P2 := Lib.hid (fun w => tparse_fit (s := { data := #[108, 101, 116, 32, 97, 32, 61, 32, 97, 59] }) aw11_b (by decide) w (rl := 1) (sz := 1) rfl rfl)
  clear hQ ht
  go_enter Tryz.func8, Tryz.ntmps8
  go_wp2_with (go_at_call 10; refine P1.out.mono ?_)
  intro e1 w1 h1
  obtain ⟨A1, ca1, B1, cb1, rfl, hcb1, s1, s2, b1⟩ := h1
  obtain ⟨w2, hw2, YB, b2⟩ : ∃ w2, w1.alloc (.cells #[.slice none 0 0, .slice none 0 0] 32) = w2 ∧ Box w2 w1.heap.size [.slice none 0 0, .slice none 0 0] ∧ Below w1.heap.size w1 w2 := ⟨_, rfl, Box.new _ _ [.slice none 0 0, .slice none 0 0], (Below.refl _ _).alloc (Nat.le_refl _) _⟩
  obtain ⟨w3, hw3, Y3, ON3⟩ := store2 YB (.slice A1 2 ca1) (.slice B1 2 cb1)
  have b3 := ON3.below (Nat.le_refl _) b2
  have B3 := Lib.hid (below_step b1 b3)
  have S1 := Lib.hid (s1.on b3); have S2 := Lib.hid (s2.on b3)
  have PR3 := Lib.hid (P2.out w3)
  have HY3 := Lib.hid Y3
  obtain ⟨y0, y1⟩ := px2 YB
  obtain ⟨z0, z1⟩ := px2f YB
  have hs2 := YB.1
  have HW3 := Lib.hid hw3
  clear YB Y3 ON3 b1 b2 b3 hw3 P1 s1 s2 P2
  go_upto_region 2 with fail
  rw [HW3.out]
  clear HW3 hw2 y0 y1 z0 z1 hs2
  go_wp2_with (go_at_call 10; refine PR3.out.mono ?_)
  intro e5 w5 h5
  obtain ⟨A2, ca2, B2, cb2, rfl, hcb2, s3, s4, b5⟩ := h5
  obtain ⟨w6, hw6, YB, b6⟩ : ∃ w6, w5.alloc (.cells #[.slice none 0 0, .slice none 0 0] 32) = w6 ∧ Box w6 w5.heap.size [.slice none 0 0, .slice none 0 0] ∧ Below w5.heap.size w5 w6 := ⟨_, rfl, Box.new _ _ [.slice none 0 0, .slice none 0 0], (Below.refl _ _).alloc (Nat.le_refl _) _⟩
  obtain ⟨w7, hw7, Y7, ON7⟩ := store2 YB (.slice A2 1 ca2) (.slice B2 1 cb2)
  have b7 := ON7.below (Nat.le_refl _) b6
  have b57 := below_step b5 b7
  have B7 := Lib.hid (below_step B3.out b57)
  have T7 := HT.out.on B7.out
  have cs := ksort_any (rc := ca1) (c := cb1) (fit_500 aw11_a (by decide)) (S1.out.on b57) (S2.out.on b57) hcb1 T7
  rw [aw11_ansA] at cs
  have CS := Lib.hid cs
  have S3 := Lib.hid (s3.on b7); have S4 := Lib.hid (s4.on b7)
  have HT7 := Lib.hid T7
  have P7 := HY3.out.on b57
  have HP7 := Lib.hid P7; have HY7 := Lib.hid Y7
  obtain ⟨y0, y1⟩ := px2 YB
  obtain ⟨z0, z1⟩ := px2f YB
  have hs6 := YB.1
  obtain ⟨q0, q1⟩ := px2 P7
  have hs7 := P7.1
  have HW7 := Lib.hid hw7
  clear YB Y7 ON7 b5 b6 b7 b57 hw7 PR3 s3 s4 T7 P7 HY3 cs
  go_upto_region 3 with fail
  rw [HW7.out]
  clear HW7 hw6 y0 y1 z0 z1 hs6
  go_wp2_with (go_at_call 11; refine CS.out.mono ?_)
  intro e8 w8 h8
  obtain ⟨XA, xc, rfl, hx, -, b8⟩ := h8
  have B8 := Lib.hid (below_step B7.out b8)
  have hy8 := HY7.out.on b8
  have cs := ksort_any (rc := ca2) (c := cb2) (fit_500 aw11_b (by decide)) (S3.out.on b8) (S4.out.on b8) hcb2 (HT7.out.on b8)
  rw [aw11_ansB] at cs
  have CS2 := Lib.hid cs
  have HX8 := Lib.hid hx
  have HT8 := Lib.hid (HT7.out.on b8)
  clear q0 q1 hs7 CS HP7 HY7 b8 HT7 B7 S1 S2 hx cs
  obtain ⟨q0, q1⟩ := px2 hy8
  have hs8 := hy8.1
  clear hy8
  go_wp2_with (go_at_call 11; refine CS2.out.mono ?_)
  intro e9 w9 h9
  obtain ⟨ZA, zc, rfl, -, -, b9⟩ := h9
  have B9 := Lib.hid (below_step B8.out b9)
  have HX9 := Lib.hid (HX8.out.on b9)
  have HT9 := Lib.hid (HT8.out.on b9)
  obtain ⟨w10, hw10, b10⟩ : ∃ w10, w9.alloc (.cells #[.string { data := #[] }, .string { data := #[] }, .int .i64 0] 60) = w10 ∧ Below w9.heap.size w9 w10 := ⟨_, rfl, (Below.refl _ _).alloc (Nat.le_refl _) _⟩
  have R10 : SlX rlR w10 (some ⟨w9.heap.size, 0, none⟩) 1 [([], [], 0)] := by
    rw [← hw10]
    have h := Box.new w9 60 (rlR.cells [([], [], (0 : Int))])
    refine ⟨rfl, .inr ⟨w9.heap.size, 0, rfl, fun i hi j v e => ?_⟩⟩
    rw [Nat.zero_add]
    exact h.c _ (rlR.cells_get _ i hi j v e)
  have cb := kcheck_bad (w := w10) (rc := 1) (c := 0) (n := 0) (rn := 1) (RA := some ⟨w9.heap.size, 0, none⟩) (A := none) (fun wz hz => by
    have xt := ktext_any (rc := 1) (c := 0) (R10.on hz) (slr_nil xpR wz none) ((HT9.out.on b10).on hz).1 (by omega) (by omega) (fun x hx => by cases hx) (fun h => by cases h)
    rw [aw11_none] at xt
    exact xt)
  have CB := Lib.hid cb
  have B10 := Lib.hid (below_step B9.out b10)
  have HX10 := Lib.hid (HX9.out.on b10)
  have HW10 := Lib.hid hw10
  clear q0 q1 hs8 CS2 b9 HX8 HT8 HX9 HT9 b10 hw10 R10 cb B9 B8 S3 S4
  go_wp2_with fail
  rw [HW10.out]
  refine CB.out.mono ?_
  intro e11 w11 h11
  obtain ⟨rfl, b11⟩ := h11
  have B11 := Lib.hid (below_step B10.out b11)
  have hx11 := HX10.out.on b11
  obtain ⟨w12, hw12, Y12, b12⟩ : ∃ w12, w11.alloc (.cells #[.int .i64 1, .int .i64 0] 3) = w12 ∧ SlX intR w12 (some ⟨w11.heap.size, 0, none⟩) 2 [1, 0] ∧ Below w11.heap.size w11 w12 := by
    refine ⟨_, rfl, ?_, (Below.refl _ _).alloc (Nat.le_refl _) _⟩
    have h := Box.new w11 3 (intR.cells [1, 0])
    refine ⟨rfl, .inr ⟨w11.heap.size, 0, rfl, fun i hi j v e => ?_⟩⟩
    rw [Nat.zero_add]
    exact h.c _ (intR.cells_get _ i hi j v e)
  have CM := Lib.hid (same_eq (ca := xc) (cb := 2) (show SlX intR w12 XA 2 [1, 0] from hx11.on b12) Y12 (by omega))
  have B12 := Lib.hid (below_step B11.out b12)
  have HW12 := Lib.hid hw12
  clear b11 b12 hw12 Y12 hx11 CB HX10
  go_wp2_with fail
  rw [HW12.out]
  refine CM.out.mono ?_
  intro e13 w13 h13
  obtain ⟨rfl, b13⟩ := h13
  have B13 := Lib.hid (below_step B12.out b13)
  have CI := Lib.hid (kinputs_any w13)
  clear b13 CM
  go_wp2_with (go_at_call 16; refine CI.out.mono ?_)
  intro e14 w14 h14
  obtain ⟨IA, ic, rfl, -, -, -, -, b14⟩ := h14
  have B14 := Lib.hid (below_step B13.out b14)
  clear b14 CI
  go_wp2_with fail
  exact FIN.out _ B14.out
end Go.Proofs.YtdkcdgjpcojdfaaGreatDoor
