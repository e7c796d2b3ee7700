/-
  What the landed show answers: the parts of an expression, and the text of one that has none.
-/
import Derived.Test.YtdkcdgjpcojdfaaGreatDoorShowFormG
import Derived.Test.YtdkcdgjpcojdfaaGreatDoorMT

set_option linter.unusedVariables false
namespace Go.Proofs.YtdkcdgjpcojdfaaGreatDoor
open Go.RowKit
open PCheck (Xp)

set_option maxHeartbeats 1600000 in
set_option maxRecDepth 100000 in
/-- The three places of an expression. -/
theorem kpartsOf_any (x : Xp) (w : World) : Calls Tryz.prog 85 #[.agg (xpC x).toArray] w fun e w' => e = .returned (.agg #[.int .i64 x.a, .int .i64 x.b, .int .i64 x.c]) ∧ Below w.heap.size w w' := by
  obtain ⟨op, nm, vl, ya, yb, yc⟩ := x
  obtain ⟨H, hH⟩ : ∃ H, w.heap.size = H := ⟨_, rfl⟩
  obtain ⟨w1, hw1, XB, b1⟩ : ∃ w1, w.alloc (.cells #[.string ⟨op.toArray⟩, .string ⟨nm.toArray⟩, .int .i64 vl, .int .i64 ya, .int .i64 yb, .int .i64 yc] 58) = w1 ∧ Box w1 w.heap.size [.string ⟨op.toArray⟩, .string ⟨nm.toArray⟩, .int .i64 vl, .int .i64 ya, .int .i64 yb, .int .i64 yc] ∧ Below w.heap.size w w1 := ⟨_, rfl, Box.new _ _ [.string ⟨op.toArray⟩, .string ⟨nm.toArray⟩, .int .i64 vl, .int .i64 ya, .int .i64 yb, .int .i64 yc], (Below.refl _ _).alloc (Nat.le_refl _) _⟩
  have hs1 : w1.heap.size = H + 1 := by rw [← hw1, ← hH]; simp
  obtain ⟨w2, hw2, RB, b2⟩ : ∃ w2, w1.alloc (.cells #[.int .i64 0, .int .i64 0, .int .i64 0] 129) = w2 ∧ Box w2 w1.heap.size [.int .i64 0, .int .i64 0, .int .i64 0] ∧ Below w1.heap.size w1 w2 := ⟨_, rfl, Box.new _ _ [.int .i64 0, .int .i64 0, .int .i64 0], (Below.refl _ _).alloc (Nat.le_refl _) _⟩
  have X2 := XB.on b2
  rw [hH] at X2 b1
  rw [hs1] at RB b2
  obtain ⟨w3, hw3, R3, ON⟩ := st3x RB (.int .i64 ya) (.int .i64 yb) (.int .i64 yc)
  have FIN : Hid (Below H w w3) := Lib.hid (ON.below (Nat.le_succ H) (b1.trans (b2.mono (by omega))))
  obtain ⟨x0, x1, x2, x3, x4, x5⟩ := box6 X2
  obtain ⟨r0, r1, r2⟩ := bx3 RB
  obtain ⟨f0, f1, f2⟩ := bx3f RB
  have hsx := X2.1
  have hsr := RB.1
  obtain ⟨q0, q1, q2⟩ := bx3 R3
  rw [← hw3] at q0 q1 q2
  have HW1 := Lib.hid hw1; have HW2 := Lib.hid hw2; have HW3 := Lib.hid hw3; have HH := Lib.hid hH
  have HS1 := Lib.hid hs1
  clear hw1 hw2 hw3 XB b1 b2 RB X2 R3 ON hH hs1
  unfold xpC
  go_enter Tryz.func85, Tryz.ntmps85
  go_upto_region 1 with fail
  rw [HW1.out, HW2.out, HH.out]
  clear HW1 HW2
  go_wp2_with fail
  (try simp only [Exit.inBlock, Exit.then])
  refine bodyPost_ret (by simp [results, Tryz.results85, go_sem, q0, q1, q2]; try rfl) rfl ?_
  rw [HW3.out, HH.out]
  exact ⟨rfl, FIN.out⟩

def StrAns (l : List UInt8) (w : World) (e : Ending) (w' : World) : Prop := e = .returned (.string ⟨l.toArray⟩) ∧ Below w.heap.size w w'
theorem itoa_call (n : Int) (w : World) (h0 : -9223372036854775808 ≤ n) (h1 : n ≤ 9223372036854775807) (ht : Tab w) :
    Calls Tryz.prog 126 #[.int .i64 n] w (StrAns (Lib.itoa n) w) := by
  refine (Tryz.strconv_Itoa n h0 h1 w ht).mono ?_
  rintro e w' ⟨rfl, k, os, rfl⟩
  exact ⟨rfl, Lib.below_grow _ _ (Nat.le_refl _) _ _⟩
theorem money_call (n : Int) (w : World) (h0 : -9223372036854775808 ≤ n) (h1 : n ≤ 9223372036854775807) (ht : Tab w) :
    ∃ z : Int, Calls Tryz.prog 127 #[.int .i64 n] w fun e w' => e = .returned (.tuple #[.string ⟨(if n.natAbs ≤ PMoney.MM then PMoney.text n else []).toArray⟩, .int .i64 z]) ∧ Below w.heap.size w w' := by
  by_cases h : n.natAbs ≤ PMoney.MM
  · refine ⟨0, ?_⟩
    rw [if_pos h]
    unfold PMoney.MM at h
    exact text_yes n w (by omega) h1 ht
  · refine ⟨3, ?_⟩
    rw [if_neg h]
    unfold PMoney.MM at h
    refine (text_no n w (by omega)).mono ?_
    rintro e w' ⟨rfl, rfl⟩
    exact ⟨rfl, Below.refl _ _⟩
theorem rate_call (n : Int) (w : World) (ht : Tab w) :
    ∃ z : Int, Calls Tryz.prog 128 #[.int .i64 n] w fun e w' => e = .returned (.tuple #[.string ⟨(if 0 ≤ n ∧ n ≤ 10000 then PRate.text n else []).toArray⟩, .int .i64 z]) ∧ Below w.heap.size w w' := by
  by_cases h : 0 ≤ n ∧ n ≤ 10000
  · refine ⟨0, ?_⟩
    rw [if_pos h]
    exact rtext_yes n w h.1 h.2 ht _ rfl
  · refine ⟨1, ?_⟩
    rw [if_neg h]
    refine (rtext_no n w h).mono ?_
    rintro e w' ⟨rfl, rfl⟩
    exact ⟨rfl, Below.refl _ _⟩
set_option maxHeartbeats 3200000 in
set_option maxRecDepth 100000 in
/-- The text of an expression that has no parts. -/
theorem kleaf_any (x : Xp) (w : World) (ht : Tab w) (h0 : -9223372036854775808 ≤ x.value) (h1 : x.value ≤ 9223372036854775807) : Calls Tryz.prog 120 #[.agg (xpC x).toArray] w (StrAns (PShow.leafTx x) w) := by
  obtain ⟨L, hL⟩ : ∃ L : ByteArray, ⟨(PShow.leafTx x).toArray⟩ = L := ⟨_, rfl⟩
  obtain ⟨Q, hQ⟩ : ∃ Q, StrAns (PShow.leafTx x) w = Q := ⟨_, rfl⟩
  rw [hQ]
  have HQ : Hid (∀ e w', e = .returned (.string L) → Below w.heap.size w w' → Q e w') := Lib.hid (fun e w' he hb => by rw [← hQ]; exact ⟨by rw [he, hL], hb⟩)
  obtain ⟨op, nm, vl, ya, yb, yc⟩ := x
  obtain ⟨w1, hw1, XB, b1⟩ : ∃ w1, w.alloc (.cells #[.string ⟨op.toArray⟩, .string ⟨nm.toArray⟩, .int .i64 vl, .int .i64 ya, .int .i64 yb, .int .i64 yc] 58) = w1 ∧ Box w1 w.heap.size [.string ⟨op.toArray⟩, .string ⟨nm.toArray⟩, .int .i64 vl, .int .i64 ya, .int .i64 yb, .int .i64 yc] ∧ Below w.heap.size w w1 := ⟨_, rfl, Box.new _ _ [.string ⟨op.toArray⟩, .string ⟨nm.toArray⟩, .int .i64 vl, .int .i64 ya, .int .i64 yb, .int .i64 yc], (Below.refl _ _).alloc (Nat.le_refl _) _⟩
  have HW1 := Lib.hid hw1; have B1 := Lib.hid b1
  have T1 : Tab w1 := ht.on b1
  obtain ⟨x0, x1, x2, x3, x4, x5⟩ := box6 XB
  have hsx := XB.1
  have HLE : Hid (w.heap.size ≤ w1.heap.size) := Lib.hid (by omega)
  clear hw1 b1 XB ht hQ
  simp only at h0 h1
  unfold xpC
  unfold PShow.leafTx at hL
  simp only at hL
  by_cases e1 : op = PCheck.wholeS
  · subst e1
    rw [if_pos rfl] at hL
    have C := itoa_call vl w1 h0 h1 T1
    unfold StrAns at C
    rw [hL] at C
    have HC := Lib.hid C
    clear C hL T1 h0 h1
    unfold PCheck.wholeS at *
    go_enter Tryz.func120, Tryz.ntmps120
    go_upto_region 2 with fail
    rw [HW1.out]
    go_wp2_with (go_at_call 126; refine HC.out.mono ?_)
    rintro e w2 ⟨rfl, b2⟩
    have HB := Lib.hid b2
    clear b2
    go_wp2_with fail
    exact HQ.out _ _ rfl (B1.out.trans (HB.out.mono HLE.out))
  rw [if_neg e1] at hL
  have n1 := sf_ne (op := op) (l := [PCheck.wholeS]) (by simpa using e1) (s := [119, 104, 111, 108, 101]) (by decide)
  by_cases e2 : op = PCheck.amountS
  · subst e2
    rw [if_pos rfl] at hL
    obtain ⟨z, C⟩ := money_call vl w1 h0 h1 T1
    rw [hL] at C
    have HC := Lib.hid C
    clear C hL T1 h0 h1 e1
    unfold PCheck.amountS at *
    go_enter Tryz.func120, Tryz.ntmps120
    go_upto_region 2 with fail
    rw [HW1.out]
    go_wp2_with (go_at_call 127; refine HC.out.mono ?_)
    rintro e w2 ⟨rfl, b2⟩
    have HB := Lib.hid b2
    clear b2
    go_wp2_with fail
    exact HQ.out _ _ rfl (B1.out.trans (HB.out.mono HLE.out))
  rw [if_neg e2] at hL
  have n2 := sf_ne (op := op) (l := [PCheck.amountS]) (by simpa using e2) (s := [97, 109, 111, 117, 110, 116]) (by decide)
  by_cases e3 : op = PCheck.rateS
  · subst e3
    rw [if_pos rfl] at hL
    obtain ⟨z, C⟩ := rate_call vl w1 T1
    rw [hL] at C
    have HC := Lib.hid C
    clear C hL T1 h0 h1 e1 e2
    unfold PCheck.rateS at *
    go_enter Tryz.func120, Tryz.ntmps120
    go_upto_region 2 with fail
    rw [HW1.out]
    go_wp2_with (go_at_call 128; refine HC.out.mono ?_)
    rintro e w2 ⟨rfl, b2⟩
    have HB := Lib.hid b2
    clear b2
    go_wp2_with fail
    exact HQ.out _ _ rfl (B1.out.trans (HB.out.mono HLE.out))
  rw [if_neg e3] at hL
  have n3 := sf_ne (op := op) (l := [PCheck.rateS]) (by simpa using e3) (s := [114, 97, 116, 101]) (by decide)
  by_cases e4 : op = PCheck.nameS
  · subst e4
    rw [if_pos rfl] at hL
    have HL := Lib.hid hL
    clear T1 h0 h1 e1 e2 e3 hL
    unfold PCheck.nameS at *
    go_enter Tryz.func120, Tryz.ntmps120
    go_upto_region 2 with fail
    rw [HW1.out]
    go_wp2_with fail
    exact HQ.out _ _ (by rw [← HL.out]; rfl) B1.out
  rw [if_neg e4] at hL
  have n4 := sf_ne (op := op) (l := [PCheck.nameS]) (by simpa using e4) (s := [110, 97, 109, 101]) (by decide)
  have HL := Lib.hid hL
  clear T1 h0 h1 e1 e2 e3 e4 hL
  go_enter Tryz.func120, Tryz.ntmps120
  go_upto_region 2 with fail
  rw [HW1.out]
  go_wp2_with fail
  exact HQ.out _ _ (by rw [← HL.out]; rfl) B1.out

end Go.Proofs.YtdkcdgjpcojdfaaGreatDoor
