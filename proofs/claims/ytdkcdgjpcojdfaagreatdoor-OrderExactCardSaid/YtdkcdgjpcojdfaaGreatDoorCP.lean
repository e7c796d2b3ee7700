/-
  What the landed check answers of kinds alone: common, oneOf, product, flag.
  What the landed check answers: the kind of an operation, by the kinds of its parts; the places of the parts.
  What the landed check answers: the places of the parts of an expression.
  What the document's answer of layer 10 says: how many parts an operation has, and which.
-/
import Derived.Test.YtdkcdgjpcojdfaaGreatDoorCheckRowsG
import Derived.Test.YtdkcdgjpcojdfaaGreatDoorShelf
import Derived.Test.YtdkcdgjpcojdfaaGreatDoorMC
import Derived.Handy
import Derived.Test.YtdkcdgjpcojdfaaGreatDoorBK
import Derived.Deep.DeepCutAuto

namespace Go.Proofs.YtdkcdgjpcojdfaaGreatDoor
open Go.RowKit

theorem kcommon_any (a b : Int) (w : World) : Calls Tryz.prog 111 #[.int .i64 a, .int .i64 b] w fun e w' => e = .returned (.int .i64 (PCheck.common a b)) ∧ w = w' := by
  by_cases h : a = b
  · subst h
    have h1 : (a != a) = false := by simp
    go_enter Tryz.func111, Tryz.ntmps111
    go_wp2_with fail
    go_ret
    exact ⟨by unfold PCheck.common; rw [if_pos rfl]; rfl, rfl⟩
  · have h1 : (a != b) = true := by rw [bne_iff_ne]; exact h
    have HR : Hid (PCheck.common a b = 0) := Lib.hid (by unfold PCheck.common; rw [if_neg h])
    clear h
    go_enter Tryz.func111, Tryz.ntmps111
    go_wp2_with fail
    go_ret
    exact ⟨by rw [HR.out]; rfl, rfl⟩
theorem kflag_any (k : Int) (w : World) : Calls Tryz.prog 113 #[.int .i64 k] w fun e w' => e = .returned (.int .i64 (PCheck.flag k)) ∧ w = w' := by
  by_cases h : k = 0
  · subst h
    go_enter Tryz.func113, Tryz.ntmps113
    go_wp2_with fail
    go_ret
    exact ⟨rfl, rfl⟩
  · have h1 : (k == 0) = false := by rw [beq_eq_false_iff_ne]; exact h
    have HR : Hid (PCheck.flag k = 4) := Lib.hid (by unfold PCheck.flag; rw [if_neg h])
    clear h
    go_enter Tryz.func113, Tryz.ntmps113
    go_wp2_with fail
    go_ret
    exact ⟨by rw [HR.out]; rfl, rfl⟩
theorem koneOf_any {w : World} (b n c : Nat) (zs : List Int) (k : Int) (hn : n = zs.length) (hbig : n ≤ 1000) (hc : ∀ j, j < zs.length → w.cell? ⟨b, 0 + j, none⟩ = some (.int .i64 (zs.getD j 0))) :
    Calls Tryz.prog 93 #[.int .i64 k, .slice (some ⟨b, 0, none⟩) n c] w fun e w' => e = .returned (.int .i64 (PCheck.oneOf k zs)) ∧ w = w' := by
  have H := Lib.hid (Tryz.slices_Contains_int b 0 n c zs k w (Nat.le_of_eq hn) (by omega) hc)
  have ht : zs.take n = zs := by rw [hn]; exact List.take_length
  rw [ht] at H
  clear hc ht hn
  by_cases h : k ∈ zs
  · have h1 : zs.contains k = true := List.contains_iff_mem.2 h
    have HR : Hid (PCheck.oneOf k zs = k) := Lib.hid (by unfold PCheck.oneOf; rw [if_pos h])
    rw [h1] at H
    clear h h1
    go_enter Tryz.func93, Tryz.ntmps93
    go_wp2_with fail
    refine (H.out).mono ?_
    rintro _ _ ⟨rfl, rfl⟩
    go_wp2_with fail
    go_ret
    exact ⟨by rw [HR.out]; rfl, rfl⟩
  · have h1 : zs.contains k = false := by rw [Bool.eq_false_iff]; exact fun e => h (List.contains_iff_mem.1 e)
    have HR : Hid (PCheck.oneOf k zs = 0) := Lib.hid (by unfold PCheck.oneOf; rw [if_neg h])
    rw [h1] at H
    clear h h1
    go_enter Tryz.func93, Tryz.ntmps93
    go_wp2_with fail
    refine (H.out).mono ?_
    rintro _ _ ⟨rfl, rfl⟩
    go_wp2_with fail
    go_ret
    exact ⟨by rw [HR.out]; rfl, rfl⟩
set_option maxHeartbeats 1600000 in
theorem kproduct_any {a b : Int} (ha : PCheck.Four a) (hb : PCheck.Four b) (w : World) : Calls Tryz.prog 112 #[.int .i64 a, .int .i64 b] w fun e w' => e = .returned (.int .i64 (PCheck.product a b)) ∧ w = w' := by
  rcases ha with rfl | rfl | rfl | rfl | rfl <;> rcases hb with rfl | rfl | rfl | rfl | rfl
  all_goals
    go_enter Tryz.func112, Tryz.ntmps112
    go_wp2_with fail
    go_ret
    exact ⟨rfl, rfl⟩
end Go.Proofs.YtdkcdgjpcojdfaaGreatDoor

namespace Go.Proofs.YtdkcdgjpcojdfaaGreatDoor
open Go.RowKit

theorem kb_ne {op : List UInt8} {l : List (List UInt8)} (h : op ∉ l) {s : List UInt8} (hs : s ∈ l) : (op == s) = false := by rw [beq_eq_false_iff_ne]; rintro rfl; exact h hs
theorem ints_new (w : World) (t : TypeId) (zs : List Int) : ∀ j, j < zs.length → (w.alloc (.cells (zs.map fun z => Value.int .i64 z).toArray t)).cell? ⟨w.heap.size, 0 + j, none⟩ = some (.int .i64 (zs.getD j 0)) := by
  intro j hj
  rw [World.cell?_alloc_at _ _ _ _ rfl]
  simp [List.getD, hj]
set_option maxHeartbeats 3200000 in
set_option maxRecDepth 100000 in
theorem kkindBy_any {op : List UInt8} {a b c : Int} (ha : PCheck.Four a) (hb : PCheck.Four b) (w : World) :
    Calls Tryz.prog 94 #[.string ⟨op.toArray⟩, .agg #[.int .i64 a, .int .i64 b, .int .i64 c]] w fun e w' => e = .returned (.int .i64 (PCheck.kindBy op a b c)) ∧ Below w.heap.size w w' := by
  have O13 : Hid (∀ (w : World) (k : Int), Calls Tryz.prog 93 #[.int .i64 k, .slice (some ⟨w.heap.size, 0, none⟩) 2 2] (w.alloc (.cells #[.int .i64 1, .int .i64 3] 3)) fun e w' => e = .returned (.int .i64 (PCheck.oneOf k [1, 3])) ∧ w.alloc (.cells #[.int .i64 1, .int .i64 3] 3) = w') := Lib.hid (fun w k => koneOf_any w.heap.size 2 2 [1, 3] k rfl (by decide) (ints_new w 3 [1, 3]))
  have O123 : Hid (∀ (w : World) (k : Int), Calls Tryz.prog 93 #[.int .i64 k, .slice (some ⟨w.heap.size, 0, none⟩) 3 3] (w.alloc (.cells #[.int .i64 1, .int .i64 2, .int .i64 3] 3)) fun e w' => e = .returned (.int .i64 (PCheck.oneOf k [1, 2, 3])) ∧ w.alloc (.cells #[.int .i64 1, .int .i64 2, .int .i64 3] 3) = w') := Lib.hid (fun w k => koneOf_any w.heap.size 3 3 [1, 2, 3] k rfl (by decide) (ints_new w 3 [1, 2, 3]))
  have PR := Lib.hid (fun w => kproduct_any ha hb w)
  have CO := Lib.hid kcommon_any
  have FL := Lib.hid kflag_any
  by_cases hop : op ∈ opAll
  · obtain ⟨w1, hw1, XB, b1⟩ : ∃ w1, w.alloc (.cells #[.int .i64 a, .int .i64 b, .int .i64 c] 129) = w1 ∧ Box w1 w.heap.size [.int .i64 a, .int .i64 b, .int .i64 c] ∧ Below w.heap.size w w1 := ⟨_, rfl, Box.new _ _ [.int .i64 a, .int .i64 b, .int .i64 c], (Below.refl _ _).alloc (Nat.le_refl _) _⟩
    have HW1 := Lib.hid hw1; have B1 := Lib.hid b1
    obtain ⟨x0, x1, x2⟩ := box3 XB
    have hsx := XB.1
    clear hw1 b1 XB
    simp only [opAll, PCheck.wholeS, PCheck.amountS, PCheck.rateS, PCheck.nameS, PCheck.negS, PCheck.ifS, List.mem_cons, List.not_mem_nil, or_false] at hop
    rcases hop with rfl | rfl | rfl | rfl | rfl | rfl | rfl | rfl | rfl | rfl | rfl | rfl | rfl | rfl | rfl | rfl | rfl
    · go_enter Tryz.func94, Tryz.ntmps94
      go_upto_region 1 with fail
      rw [HW1.out]
      go_wp2_with fail
      go_ret
      exact ⟨rfl, B1.out⟩
    · go_enter Tryz.func94, Tryz.ntmps94
      go_upto_region 1 with fail
      rw [HW1.out]
      go_wp2_with fail
      go_ret
      exact ⟨rfl, B1.out⟩
    · go_enter Tryz.func94, Tryz.ntmps94
      go_upto_region 1 with fail
      rw [HW1.out]
      go_wp2_with fail
      go_ret
      exact ⟨rfl, B1.out⟩
    · go_enter Tryz.func94, Tryz.ntmps94
      go_upto_region 1 with fail
      rw [HW1.out]
      go_wp2_with fail
      go_ret
      exact ⟨rfl, B1.out⟩
    · go_enter Tryz.func94, Tryz.ntmps94
      go_upto_region 1 with fail
      rw [HW1.out]
      go_wp2_with fail
      refine (O13.out _ _).mono ?_
      rintro _ w2 ⟨rfl, hw2⟩
      have B2 : Hid (Below w.heap.size w w2) := Lib.hid (by rw [← hw2]; exact below_step B1.out ((Below.refl _ _).alloc (Nat.le_refl _) _))
      clear hw2
      go_wp2_with fail
      go_ret
      exact ⟨rfl, B2.out⟩
    · by_cases h4 : a = 4
      · have HR : Hid (PCheck.kindBy [105, 102] a b c = PCheck.common b c) := Lib.hid (by show (if a = 4 then PCheck.common b c else 0) = _; rw [if_pos h4])
        have h5 : (a == 4) = true := by rw [beq_iff_eq]; exact h4
        clear h4
        go_enter Tryz.func94, Tryz.ntmps94
        go_upto_region 1 with fail
        rw [HW1.out]
        go_wp2_with fail
        refine (CO.out _ _ _).mono ?_
        rintro _ _ ⟨rfl, rfl⟩
        go_wp2_with fail
        go_ret
        exact ⟨by rw [HR.out]; rfl, B1.out⟩
      · have HR : Hid (PCheck.kindBy [105, 102] a b c = 0) := Lib.hid (by show (if a = 4 then PCheck.common b c else 0) = _; rw [if_neg h4])
        have h5 : (a == 4) = false := by rw [beq_eq_false_iff_ne]; exact h4
        clear h4
        go_enter Tryz.func94, Tryz.ntmps94
        go_upto_region 1 with fail
        rw [HW1.out]
        go_wp2_with fail
        go_ret
        exact ⟨by rw [HR.out]; rfl, B1.out⟩
    · go_enter Tryz.func94, Tryz.ntmps94
      go_upto_region 1 with fail
      rw [HW1.out]
      go_wp2_with fail
      refine (CO.out _ _ _).mono ?_
      rintro _ _ ⟨rfl, rfl⟩
      go_wp2_with fail
      refine (O13.out _ _).mono ?_
      rintro _ w2 ⟨rfl, hw2⟩
      have B2 : Hid (Below w.heap.size w w2) := Lib.hid (by rw [← hw2]; exact below_step B1.out ((Below.refl _ _).alloc (Nat.le_refl _) _))
      clear hw2
      go_wp2_with fail
      go_ret
      exact ⟨rfl, B2.out⟩
    · go_enter Tryz.func94, Tryz.ntmps94
      go_upto_region 1 with fail
      rw [HW1.out]
      go_wp2_with fail
      refine (CO.out _ _ _).mono ?_
      rintro _ _ ⟨rfl, rfl⟩
      go_wp2_with fail
      refine (O13.out _ _).mono ?_
      rintro _ w2 ⟨rfl, hw2⟩
      have B2 : Hid (Below w.heap.size w w2) := Lib.hid (by rw [← hw2]; exact below_step B1.out ((Below.refl _ _).alloc (Nat.le_refl _) _))
      clear hw2
      go_wp2_with fail
      go_ret
      exact ⟨rfl, B2.out⟩
    · go_enter Tryz.func94, Tryz.ntmps94
      go_upto_region 1 with fail
      rw [HW1.out]
      go_wp2_with fail
      refine (PR.out _).mono ?_
      rintro _ _ ⟨rfl, rfl⟩
      go_wp2_with fail
      go_ret
      exact ⟨rfl, B1.out⟩
    · go_enter Tryz.func94, Tryz.ntmps94
      go_upto_region 1 with fail
      rw [HW1.out]
      go_wp2_with fail
      refine (CO.out _ _ _).mono ?_
      rintro _ _ ⟨rfl, rfl⟩
      go_wp2_with fail
      refine (O123.out _ _).mono ?_
      rintro _ w2 ⟨rfl, hw2⟩
      have B2 : Hid (Below w.heap.size w w2) := Lib.hid (by rw [← hw2]; exact below_step B1.out ((Below.refl _ _).alloc (Nat.le_refl _) _))
      clear hw2
      go_wp2_with fail
      refine (FL.out _ _).mono ?_
      rintro _ _ ⟨rfl, rfl⟩
      go_wp2_with fail
      go_ret
      exact ⟨rfl, B2.out⟩
    · go_enter Tryz.func94, Tryz.ntmps94
      go_upto_region 1 with fail
      rw [HW1.out]
      go_wp2_with fail
      refine (CO.out _ _ _).mono ?_
      rintro _ _ ⟨rfl, rfl⟩
      go_wp2_with fail
      refine (O123.out _ _).mono ?_
      rintro _ w2 ⟨rfl, hw2⟩
      have B2 : Hid (Below w.heap.size w w2) := Lib.hid (by rw [← hw2]; exact below_step B1.out ((Below.refl _ _).alloc (Nat.le_refl _) _))
      clear hw2
      go_wp2_with fail
      refine (FL.out _ _).mono ?_
      rintro _ _ ⟨rfl, rfl⟩
      go_wp2_with fail
      go_ret
      exact ⟨rfl, B2.out⟩
    · go_enter Tryz.func94, Tryz.ntmps94
      go_upto_region 1 with fail
      rw [HW1.out]
      go_wp2_with fail
      refine (CO.out _ _ _).mono ?_
      rintro _ _ ⟨rfl, rfl⟩
      go_wp2_with fail
      refine (FL.out _ _).mono ?_
      rintro _ _ ⟨rfl, rfl⟩
      go_wp2_with fail
      go_ret
      exact ⟨rfl, B1.out⟩
    · go_enter Tryz.func94, Tryz.ntmps94
      go_upto_region 1 with fail
      rw [HW1.out]
      go_wp2_with fail
      refine (CO.out _ _ _).mono ?_
      rintro _ _ ⟨rfl, rfl⟩
      go_wp2_with fail
      refine (FL.out _ _).mono ?_
      rintro _ _ ⟨rfl, rfl⟩
      go_wp2_with fail
      go_ret
      exact ⟨rfl, B1.out⟩
    · go_enter Tryz.func94, Tryz.ntmps94
      go_upto_region 1 with fail
      rw [HW1.out]
      go_wp2_with fail
      refine (CO.out _ _ _).mono ?_
      rintro _ _ ⟨rfl, rfl⟩
      go_wp2_with fail
      refine (O123.out _ _).mono ?_
      rintro _ w2 ⟨rfl, hw2⟩
      have B2 : Hid (Below w.heap.size w w2) := Lib.hid (by rw [← hw2]; exact below_step B1.out ((Below.refl _ _).alloc (Nat.le_refl _) _))
      clear hw2
      go_wp2_with fail
      refine (FL.out _ _).mono ?_
      rintro _ _ ⟨rfl, rfl⟩
      go_wp2_with fail
      go_ret
      exact ⟨rfl, B2.out⟩
    · go_enter Tryz.func94, Tryz.ntmps94
      go_upto_region 1 with fail
      rw [HW1.out]
      go_wp2_with fail
      refine (CO.out _ _ _).mono ?_
      rintro _ _ ⟨rfl, rfl⟩
      go_wp2_with fail
      refine (O123.out _ _).mono ?_
      rintro _ w2 ⟨rfl, hw2⟩
      have B2 : Hid (Below w.heap.size w w2) := Lib.hid (by rw [← hw2]; exact below_step B1.out ((Below.refl _ _).alloc (Nat.le_refl _) _))
      clear hw2
      go_wp2_with fail
      refine (FL.out _ _).mono ?_
      rintro _ _ ⟨rfl, rfl⟩
      go_wp2_with fail
      go_ret
      exact ⟨rfl, B2.out⟩
    · go_enter Tryz.func94, Tryz.ntmps94
      go_upto_region 1 with fail
      rw [HW1.out]
      go_wp2_with fail
      refine (CO.out _ _ _).mono ?_
      rintro _ _ ⟨rfl, rfl⟩
      go_wp2_with fail
      refine (O123.out _ _).mono ?_
      rintro _ w2 ⟨rfl, hw2⟩
      have B2 : Hid (Below w.heap.size w w2) := Lib.hid (by rw [← hw2]; exact below_step B1.out ((Below.refl _ _).alloc (Nat.le_refl _) _))
      clear hw2
      go_wp2_with fail
      go_ret
      exact ⟨rfl, B2.out⟩
    · go_enter Tryz.func94, Tryz.ntmps94
      go_upto_region 1 with fail
      rw [HW1.out]
      go_wp2_with fail
      refine (CO.out _ _ _).mono ?_
      rintro _ _ ⟨rfl, rfl⟩
      go_wp2_with fail
      refine (O123.out _ _).mono ?_
      rintro _ w2 ⟨rfl, hw2⟩
      have B2 : Hid (Below w.heap.size w w2) := Lib.hid (by rw [← hw2]; exact below_step B1.out ((Below.refl _ _).alloc (Nat.le_refl _) _))
      clear hw2
      go_wp2_with fail
      go_ret
      exact ⟨rfl, B2.out⟩
  · have hk : PCheck.kindBy op a b c = 0 := by
      simp only [opAll, List.mem_cons, List.not_mem_nil, or_false, not_or] at hop
      obtain ⟨n1, n2, n3, n4, n5, n6, n7, n8, n9, n10, n11, n12, n13, n14, n15, n16, n17⟩ := hop
      unfold PCheck.kindBy
      rw [if_neg n1, if_neg n2, if_neg n3, if_neg n5, if_neg (by rintro (h | h); exact n7 h; exact n8 h), if_neg n9, if_neg (by rintro (h | h | h | h); exact n10 h; exact n11 h; exact n14 h; exact n15 h), if_neg (by rintro (h | h); exact n12 h; exact n13 h), if_neg (by rintro (h | h); exact n16 h; exact n17 h), if_neg n6]
    have e1 := kb_ne hop (s := [119, 104, 111, 108, 101]) (by decide); have e2 := kb_ne hop (s := [97, 109, 111, 117, 110, 116]) (by decide); have e3 := kb_ne hop (s := [114, 97, 116, 101]) (by decide)
    have e5 := kb_ne hop (s := [110, 101, 103]) (by decide); have e6 := kb_ne hop (s := [105, 102]) (by decide); have e7 := kb_ne hop (s := [43]) (by decide); have e8 := kb_ne hop (s := [45]) (by decide); have e9 := kb_ne hop (s := [42]) (by decide)
    have e10 := kb_ne hop (s := [60]) (by decide); have e11 := kb_ne hop (s := [60, 61]) (by decide); have e12 := kb_ne hop (s := [61]) (by decide); have e13 := kb_ne hop (s := [60, 62]) (by decide); have e14 := kb_ne hop (s := [62]) (by decide); have e15 := kb_ne hop (s := [62, 61]) (by decide)
    have e16 := kb_ne hop (s := [109, 105, 110]) (by decide); have e17 := kb_ne hop (s := [109, 97, 120]) (by decide)
    have HK := Lib.hid hk
    obtain ⟨w1, hw1, b1⟩ : ∃ w1, w.alloc (.cells #[.int .i64 a, .int .i64 b, .int .i64 c] 129) = w1 ∧ Below w.heap.size w w1 := ⟨_, rfl, (Below.refl _ _).alloc (Nat.le_refl _) _⟩
    have HW1 := Lib.hid hw1; have B1 := Lib.hid b1
    clear hop hk hw1 b1
    go_enter Tryz.func94, Tryz.ntmps94
    go_upto_region 1 with fail
    rw [HW1.out]
    go_wp2_with fail
    go_ret
    exact ⟨by rw [HK.out]; rfl, B1.out⟩
end Go.Proofs.YtdkcdgjpcojdfaaGreatDoor

namespace Go.Proofs.YtdkcdgjpcojdfaaGreatDoor
open Go.RowKit

def PtI (w : World) (lo : Nat) (P : Option Addr) (l : List Int) : Prop := l = [] ∨ ∃ b, P = some ⟨b, 0, none⟩ ∧ lo ≤ b ∧ ∀ j x, l[j]? = some x → w.cell? ⟨b, j, none⟩ = some (.int .i64 x)
theorem ptI_new (w : World) {lo : Nat} (hl : lo ≤ w.heap.size) (t : TypeId) (l : List Int) : PtI (w.alloc (.cells (l.map fun z => Value.int .i64 z).toArray t)) lo (some ⟨w.heap.size, 0, none⟩) l :=
  .inr ⟨_, rfl, hl, fun j x h => (Box.new w t (l.map fun z => Value.int .i64 z)).c j (by simp [h])⟩
set_option maxHeartbeats 3200000 in
set_option maxRecDepth 100000 in
theorem kparts_any (x : PCheck.Xp) (w : World) : Calls Tryz.prog 92 #[.agg (xpC x).toArray] w fun e w' => ∃ P c, e = .returned (.slice P (PCheck.parts x).length c) ∧ PtI w' w.heap.size P (PCheck.parts x) ∧ Below w.heap.size w w' := by
  obtain ⟨op, nm, vl, ya, yb, yc⟩ := x
  obtain ⟨w1, hw1, XB, b1⟩ : ∃ w1, w.alloc (.cells #[.string ⟨op.toArray⟩, .string ⟨nm.toArray⟩, .int .i64 vl, .int .i64 ya, .int .i64 yb, .int .i64 yc] 58) = w1 ∧ Box w1 w.heap.size [.string ⟨op.toArray⟩, .string ⟨nm.toArray⟩, .int .i64 vl, .int .i64 ya, .int .i64 yb, .int .i64 yc] ∧ Below w.heap.size w w1 := ⟨_, rfl, Box.new _ _ [.string ⟨op.toArray⟩, .string ⟨nm.toArray⟩, .int .i64 vl, .int .i64 ya, .int .i64 yb, .int .i64 yc], (Below.refl _ _).alloc (Nat.le_refl _) _⟩
  have HW1 := Lib.hid hw1; have B1 := Lib.hid b1
  obtain ⟨x0, x1, x2, x3, x4, x5⟩ := box6 XB
  have hsx := XB.1
  have hls := Lib.hid b1.size
  clear hw1 b1 XB
  have AL := Lib.hid (fun o => below_step B1.out ((Below.refl w1.heap.size w1).alloc (Nat.le_refl _) o))
  unfold xpC
  by_cases h6 : op ∈ [PCheck.wholeS, PCheck.amountS, PCheck.rateS, PCheck.nameS, PCheck.negS, PCheck.ifS]
  · simp only [PCheck.wholeS, PCheck.amountS, PCheck.rateS, PCheck.nameS, PCheck.negS, PCheck.ifS, List.mem_cons, List.not_mem_nil, or_false] at h6
    rcases h6 with rfl | rfl | rfl | rfl | rfl | rfl
    iterate 4
      · go_enter Tryz.func92, Tryz.ntmps92
        go_upto_region 1 with fail
        rw [HW1.out]
        go_wp2_with fail
        go_ret
        exact ⟨none, 0, rfl, .inl rfl, B1.out⟩
    · go_enter Tryz.func92, Tryz.ntmps92
      go_upto_region 1 with fail
      rw [HW1.out]
      go_wp2_with fail
      go_ret
      exact ⟨_, _, rfl, ptI_new w1 hls.out _ [ya], AL.out _⟩
    · go_enter Tryz.func92, Tryz.ntmps92
      go_upto_region 1 with fail
      rw [HW1.out]
      go_wp2_with fail
      go_ret
      exact ⟨_, _, rfl, ptI_new w1 hls.out _ [ya, yb, yc], AL.out _⟩
  · have e1 := kb_ne h6 (s := [119, 104, 111, 108, 101]) (by decide); have e2 := kb_ne h6 (s := [97, 109, 111, 117, 110, 116]) (by decide); have e3 := kb_ne h6 (s := [114, 97, 116, 101]) (by decide); have e4 := kb_ne h6 (s := [110, 97, 109, 101]) (by decide)
    have e5 := kb_ne h6 (s := [110, 101, 103]) (by decide); have e6 := kb_ne h6 (s := [105, 102]) (by decide)
    have HP : Hid (PCheck.parts ⟨op, nm, vl, ya, yb, yc⟩ = [ya, yb]) := Lib.hid (by
      simp only [List.mem_cons, List.not_mem_nil, or_false, not_or] at h6
      unfold PCheck.parts
      rw [if_neg (by rintro (h | h | h | h); exact h6.1 h; exact h6.2.1 h; exact h6.2.2.1 h; exact h6.2.2.2.1 h), if_neg h6.2.2.2.2.1, if_neg h6.2.2.2.2.2])
    clear h6
    go_enter Tryz.func92, Tryz.ntmps92
    go_upto_region 1 with fail
    rw [HW1.out]
    go_wp2_with fail
    go_ret
    rw [HP.out]
    exact ⟨_, _, rfl, ptI_new w1 hls.out _ [ya, yb], AL.out _⟩
end Go.Proofs.YtdkcdgjpcojdfaaGreatDoor

namespace Go.Proofs.YtdkcdgjpcojdfaaGreatDoor
open Go.RowKit
open PCheck (Xp parts)

def manyOf (op : List UInt8) : Nat := if op = PCheck.wholeS ∨ op = PCheck.amountS ∨ op = PCheck.rateS ∨ op = PCheck.nameS then 0 else if op = PCheck.negS then 1 else if op = PCheck.ifS then 3 else 2
theorem parts_many (x : Xp) : (parts x).length = manyOf x.op := by
  unfold PCheck.parts manyOf
  (repeat' split) <;> rfl
def partAt (x : Xp) (n : Nat) : Int := if n = 0 then x.a else if n = 1 then x.b else x.c
theorem parts_at {x : Xp} {q : Nat} (h : q < (parts x).length) : (parts x)[q]? = some (partAt x q) := by
  unfold PCheck.parts at h ⊢
  by_cases h1 : x.op = PCheck.wholeS ∨ x.op = PCheck.amountS ∨ x.op = PCheck.rateS ∨ x.op = PCheck.nameS
  · rw [if_pos h1] at h; cases h
  · rw [if_neg h1] at h ⊢
    by_cases h2 : x.op = PCheck.negS
    · rw [if_pos h2] at h ⊢
      have h : q < 1 := h
      obtain rfl : q = 0 := by omega
      rfl
    · rw [if_neg h2] at h ⊢
      by_cases h3 : x.op = PCheck.ifS
      · rw [if_pos h3] at h ⊢
        have h : q < 3 := h
        rcases (by omega : q = 0 ∨ q = 1 ∨ q = 2) with rfl | rfl | rfl <;> rfl
      · rw [if_neg h3] at h ⊢
        have h : q < 2 := h
        rcases (by omega : q = 0 ∨ q = 1) with rfl | rfl <;> rfl
set_option maxHeartbeats 3200000 in
set_option maxRecDepth 100000 in
theorem rmany_any (op : List UInt8) (w : World) : Calls Tryz.prog 65 #[.string ⟨op.toArray⟩] w fun e w' => e = .returned (.int .i64 (manyOf op : Nat)) ∧ w = w' := by
  by_cases h6 : op ∈ [PCheck.wholeS, PCheck.amountS, PCheck.rateS, PCheck.nameS, PCheck.negS, PCheck.ifS]
  · simp only [PCheck.wholeS, PCheck.amountS, PCheck.rateS, PCheck.nameS, PCheck.negS, PCheck.ifS, List.mem_cons, List.not_mem_nil, or_false] at h6
    rcases h6 with rfl | rfl | rfl | rfl | rfl | rfl
    iterate 6
      · go_enter Tryz.func65, Tryz.ntmps65
        go_wp2_with fail
        go_ret
        exact ⟨rfl, rfl⟩
  · have e1 := kb_ne h6 (s := [119, 104, 111, 108, 101]) (by decide); have e2 := kb_ne h6 (s := [97, 109, 111, 117, 110, 116]) (by decide); have e3 := kb_ne h6 (s := [114, 97, 116, 101]) (by decide); have e4 := kb_ne h6 (s := [110, 97, 109, 101]) (by decide)
    have e5 := kb_ne h6 (s := [110, 101, 103]) (by decide); have e6 := kb_ne h6 (s := [105, 102]) (by decide)
    have HP : Hid (manyOf op = 2) := Lib.hid (by
      simp only [List.mem_cons, List.not_mem_nil, or_false, not_or] at h6
      unfold manyOf
      rw [if_neg (by rintro (h | h | h | h); exact h6.1 h; exact h6.2.1 h; exact h6.2.2.1 h; exact h6.2.2.2.1 h), if_neg h6.2.2.2.2.1, if_neg h6.2.2.2.2.2])
    clear h6
    go_enter Tryz.func65, Tryz.ntmps65
    go_wp2_with fail
    go_ret
    rw [HP.out]
    exact ⟨rfl, rfl⟩
set_option maxHeartbeats 3200000 in
set_option maxRecDepth 100000 in
theorem rpart_any (x : Xp) (n : Nat) (w : World) : Calls Tryz.prog 66 #[.agg (xpC x).toArray, .int .i64 (n : Nat)] w fun e w' => e = .returned (.int .i64 (partAt x n)) ∧ Below w.heap.size w w' := by
  obtain ⟨op, nm, vl, ya, yb, yc⟩ := x
  obtain ⟨w1, hw1, XB, b1⟩ : ∃ w1, w.alloc (.cells #[.string ⟨op.toArray⟩, .string ⟨nm.toArray⟩, .int .i64 vl, .int .i64 ya, .int .i64 yb, .int .i64 yc] 104) = w1 ∧ Box w1 w.heap.size [.string ⟨op.toArray⟩, .string ⟨nm.toArray⟩, .int .i64 vl, .int .i64 ya, .int .i64 yb, .int .i64 yc] ∧ Below w.heap.size w w1 := ⟨_, rfl, Box.new _ _ [.string ⟨op.toArray⟩, .string ⟨nm.toArray⟩, .int .i64 vl, .int .i64 ya, .int .i64 yb, .int .i64 yc], (Below.refl _ _).alloc (Nat.le_refl _) _⟩
  have HW1 := Lib.hid hw1; have B1 := Lib.hid b1
  obtain ⟨x0, x1, x2, x3, x4, x5⟩ := box6 XB
  have hsx := XB.1
  clear hw1 b1 XB
  unfold xpC
  by_cases h0 : n = 0
  · subst h0
    go_enter Tryz.func66, Tryz.ntmps66
    go_upto_region 1 with fail
    (try rw [HW1.out])
    go_wp2_with fail
    go_ret
    exact ⟨rfl, B1.out⟩
  by_cases h1 : n = 1
  · subst h1
    go_enter Tryz.func66, Tryz.ntmps66
    go_upto_region 1 with fail
    (try rw [HW1.out])
    go_wp2_with fail
    go_ret
    exact ⟨rfl, B1.out⟩
  · have e0 : ((n : Int) == 0) = false := by rw [beq_eq_false_iff_ne]; omega
    have e1 : ((n : Int) == 1) = false := by rw [beq_eq_false_iff_ne]; omega
    have HP : Hid (partAt ⟨op, nm, vl, ya, yb, yc⟩ n = yc) := Lib.hid (by unfold partAt; rw [if_neg h0, if_neg h1])
    clear h0 h1
    go_enter Tryz.func66, Tryz.ntmps66
    go_upto_region 1 with fail
    (try rw [HW1.out])
    go_wp2_with fail
    go_ret
    rw [HP.out]
    exact ⟨rfl, B1.out⟩
end Go.Proofs.YtdkcdgjpcojdfaaGreatDoor
