/-
  What the landed check answers: the kind of an operation, by the kinds of its parts; the places of the parts.
-/
import Derived.Test.YtkmehhhgdeiaeaaDoorCheckSmallG
import Derived.Test.YtkmehhhgdeiaeaaDoorBK
import Derived.Deep.DeepCutAuto
import Derived.Handy
namespace Go.Proofs.YtkmehhhgdeiaeaaDoor
open Go.RowKit

theorem kb_ne {op : List UInt8} {l : List (List UInt8)} (h : op ∉ l) {s : List UInt8} (hs : s ∈ l) : (op == s) = false := by rw [beq_eq_false_iff_ne]; rintro rfl; exact h hs
theorem ints_new (w : World) (t : TypeId) (zs : List Int) : ∀ j, j < zs.length → (w.alloc (.cells (zs.map fun z => Value.int .i64 z).toArray t)).cell? ⟨w.heap.size, 0 + j, none⟩ = some (.int .i64 (zs.getD j 0)) := by
  intro j hj
  rw [World.cell?_alloc_at _ _ _ _ rfl]
  simp [List.getD, hj]
set_option maxHeartbeats 3200000 in
set_option maxRecDepth 100000 in
theorem kkindBy_any {op : List UInt8} {a b c : Int} (ha : PCheck.Four a) (hb : PCheck.Four b) (w : World) :
    Calls Tryd.prog 28 #[.string ⟨op.toArray⟩, .agg #[.int .i64 a, .int .i64 b, .int .i64 c]] w fun e w' => e = .returned (.int .i64 (PCheck.kindBy op a b c)) ∧ Below w.heap.size w w' := by
  have O13 : Hid (∀ (w : World) (k : Int), Calls Tryd.prog 27 #[.int .i64 k, .slice (some ⟨w.heap.size, 0, none⟩) 2 2] (w.alloc (.cells #[.int .i64 1, .int .i64 3] 3)) fun e w' => e = .returned (.int .i64 (PCheck.oneOf k [1, 3])) ∧ w.alloc (.cells #[.int .i64 1, .int .i64 3] 3) = w') := Lib.hid (fun w k => koneOf_any w.heap.size 2 2 [1, 3] k rfl (by decide) (ints_new w 3 [1, 3]))
  have O123 : Hid (∀ (w : World) (k : Int), Calls Tryd.prog 27 #[.int .i64 k, .slice (some ⟨w.heap.size, 0, none⟩) 3 3] (w.alloc (.cells #[.int .i64 1, .int .i64 2, .int .i64 3] 3)) fun e w' => e = .returned (.int .i64 (PCheck.oneOf k [1, 2, 3])) ∧ w.alloc (.cells #[.int .i64 1, .int .i64 2, .int .i64 3] 3) = w') := Lib.hid (fun w k => koneOf_any w.heap.size 3 3 [1, 2, 3] k rfl (by decide) (ints_new w 3 [1, 2, 3]))
  have PR := Lib.hid (fun w => kproduct_any ha hb w)
  have CO := Lib.hid kcommon_any
  have FL := Lib.hid kflag_any
  by_cases hop : op ∈ opAll
  · obtain ⟨w1, hw1, XB, b1⟩ : ∃ w1, w.alloc (.cells #[.int .i64 a, .int .i64 b, .int .i64 c] 65) = w1 ∧ Box w1 w.heap.size [.int .i64 a, .int .i64 b, .int .i64 c] ∧ Below w.heap.size w w1 := ⟨_, rfl, Box.new _ _ [.int .i64 a, .int .i64 b, .int .i64 c], (Below.refl _ _).alloc (Nat.le_refl _) _⟩
    have HW1 := Lib.hid hw1; have B1 := Lib.hid b1
    obtain ⟨x0, x1, x2⟩ := box3 XB
    have hsx := XB.1
    clear hw1 b1 XB
    simp only [opAll, PCheck.wholeS, PCheck.amountS, PCheck.rateS, PCheck.nameS, PCheck.negS, PCheck.ifS, List.mem_cons, List.not_mem_nil, or_false] at hop
    rcases hop with rfl | rfl | rfl | rfl | rfl | rfl | rfl | rfl | rfl | rfl | rfl | rfl | rfl | rfl | rfl | rfl | rfl
    · go_enter Tryd.func28, Tryd.ntmps28
      go_upto_region 1 with fail
      rw [HW1.out]
      go_wp2_with fail
      go_ret
      exact ⟨rfl, B1.out⟩
    · go_enter Tryd.func28, Tryd.ntmps28
      go_upto_region 1 with fail
      rw [HW1.out]
      go_wp2_with fail
      go_ret
      exact ⟨rfl, B1.out⟩
    · go_enter Tryd.func28, Tryd.ntmps28
      go_upto_region 1 with fail
      rw [HW1.out]
      go_wp2_with fail
      go_ret
      exact ⟨rfl, B1.out⟩
    · go_enter Tryd.func28, Tryd.ntmps28
      go_upto_region 1 with fail
      rw [HW1.out]
      go_wp2_with fail
      go_ret
      exact ⟨rfl, B1.out⟩
    · go_enter Tryd.func28, Tryd.ntmps28
      go_upto_region 1 with fail
      rw [HW1.out]
      go_wp2_with fail
      refine (O13.out _ _).mono ?_
      rintro _ w2 ⟨rfl, hw2⟩
      have B2 : Hid (Below w.heap.size w w2) := Lib.hid (by rw [← hw2]; exact below_step B1.out ((Below.refl _ _).alloc (Nat.le_refl _) _))
      clear hw2
      go_wp2_with fail
      go_ret
      exact ⟨rfl, B2.out⟩
    · by_cases h4 : a = 4
      · have HR : Hid (PCheck.kindBy [105, 102] a b c = PCheck.common b c) := Lib.hid (by show (if a = 4 then PCheck.common b c else 0) = _; rw [if_pos h4])
        have h5 : (a == 4) = true := by rw [beq_iff_eq]; exact h4
        clear h4
        go_enter Tryd.func28, Tryd.ntmps28
        go_upto_region 1 with fail
        rw [HW1.out]
        go_wp2_with fail
        refine (CO.out _ _ _).mono ?_
        rintro _ _ ⟨rfl, rfl⟩
        go_wp2_with fail
        go_ret
        exact ⟨by rw [HR.out]; rfl, B1.out⟩
      · have HR : Hid (PCheck.kindBy [105, 102] a b c = 0) := Lib.hid (by show (if a = 4 then PCheck.common b c else 0) = _; rw [if_neg h4])
        have h5 : (a == 4) = false := by rw [beq_eq_false_iff_ne]; exact h4
        clear h4
        go_enter Tryd.func28, Tryd.ntmps28
        go_upto_region 1 with fail
        rw [HW1.out]
        go_wp2_with fail
        go_ret
        exact ⟨by rw [HR.out]; rfl, B1.out⟩
    · go_enter Tryd.func28, Tryd.ntmps28
      go_upto_region 1 with fail
      rw [HW1.out]
      go_wp2_with fail
      refine (CO.out _ _ _).mono ?_
      rintro _ _ ⟨rfl, rfl⟩
      go_wp2_with fail
      refine (O13.out _ _).mono ?_
      rintro _ w2 ⟨rfl, hw2⟩
      have B2 : Hid (Below w.heap.size w w2) := Lib.hid (by rw [← hw2]; exact below_step B1.out ((Below.refl _ _).alloc (Nat.le_refl _) _))
      clear hw2
      go_wp2_with fail
      go_ret
      exact ⟨rfl, B2.out⟩
    · go_enter Tryd.func28, Tryd.ntmps28
      go_upto_region 1 with fail
      rw [HW1.out]
      go_wp2_with fail
      refine (CO.out _ _ _).mono ?_
      rintro _ _ ⟨rfl, rfl⟩
      go_wp2_with fail
      refine (O13.out _ _).mono ?_
      rintro _ w2 ⟨rfl, hw2⟩
      have B2 : Hid (Below w.heap.size w w2) := Lib.hid (by rw [← hw2]; exact below_step B1.out ((Below.refl _ _).alloc (Nat.le_refl _) _))
      clear hw2
      go_wp2_with fail
      go_ret
      exact ⟨rfl, B2.out⟩
    · go_enter Tryd.func28, Tryd.ntmps28
      go_upto_region 1 with fail
      rw [HW1.out]
      go_wp2_with fail
      refine (PR.out _).mono ?_
      rintro _ _ ⟨rfl, rfl⟩
      go_wp2_with fail
      go_ret
      exact ⟨rfl, B1.out⟩
    · go_enter Tryd.func28, Tryd.ntmps28
      go_upto_region 1 with fail
      rw [HW1.out]
      go_wp2_with fail
      refine (CO.out _ _ _).mono ?_
      rintro _ _ ⟨rfl, rfl⟩
      go_wp2_with fail
      refine (O123.out _ _).mono ?_
      rintro _ w2 ⟨rfl, hw2⟩
      have B2 : Hid (Below w.heap.size w w2) := Lib.hid (by rw [← hw2]; exact below_step B1.out ((Below.refl _ _).alloc (Nat.le_refl _) _))
      clear hw2
      go_wp2_with fail
      refine (FL.out _ _).mono ?_
      rintro _ _ ⟨rfl, rfl⟩
      go_wp2_with fail
      go_ret
      exact ⟨rfl, B2.out⟩
    · go_enter Tryd.func28, Tryd.ntmps28
      go_upto_region 1 with fail
      rw [HW1.out]
      go_wp2_with fail
      refine (CO.out _ _ _).mono ?_
      rintro _ _ ⟨rfl, rfl⟩
      go_wp2_with fail
      refine (O123.out _ _).mono ?_
      rintro _ w2 ⟨rfl, hw2⟩
      have B2 : Hid (Below w.heap.size w w2) := Lib.hid (by rw [← hw2]; exact below_step B1.out ((Below.refl _ _).alloc (Nat.le_refl _) _))
      clear hw2
      go_wp2_with fail
      refine (FL.out _ _).mono ?_
      rintro _ _ ⟨rfl, rfl⟩
      go_wp2_with fail
      go_ret
      exact ⟨rfl, B2.out⟩
    · go_enter Tryd.func28, Tryd.ntmps28
      go_upto_region 1 with fail
      rw [HW1.out]
      go_wp2_with fail
      refine (CO.out _ _ _).mono ?_
      rintro _ _ ⟨rfl, rfl⟩
      go_wp2_with fail
      refine (FL.out _ _).mono ?_
      rintro _ _ ⟨rfl, rfl⟩
      go_wp2_with fail
      go_ret
      exact ⟨rfl, B1.out⟩
    · go_enter Tryd.func28, Tryd.ntmps28
      go_upto_region 1 with fail
      rw [HW1.out]
      go_wp2_with fail
      refine (CO.out _ _ _).mono ?_
      rintro _ _ ⟨rfl, rfl⟩
      go_wp2_with fail
      refine (FL.out _ _).mono ?_
      rintro _ _ ⟨rfl, rfl⟩
      go_wp2_with fail
      go_ret
      exact ⟨rfl, B1.out⟩
    · go_enter Tryd.func28, Tryd.ntmps28
      go_upto_region 1 with fail
      rw [HW1.out]
      go_wp2_with fail
      refine (CO.out _ _ _).mono ?_
      rintro _ _ ⟨rfl, rfl⟩
      go_wp2_with fail
      refine (O123.out _ _).mono ?_
      rintro _ w2 ⟨rfl, hw2⟩
      have B2 : Hid (Below w.heap.size w w2) := Lib.hid (by rw [← hw2]; exact below_step B1.out ((Below.refl _ _).alloc (Nat.le_refl _) _))
      clear hw2
      go_wp2_with fail
      refine (FL.out _ _).mono ?_
      rintro _ _ ⟨rfl, rfl⟩
      go_wp2_with fail
      go_ret
      exact ⟨rfl, B2.out⟩
    · go_enter Tryd.func28, Tryd.ntmps28
      go_upto_region 1 with fail
      rw [HW1.out]
      go_wp2_with fail
      refine (CO.out _ _ _).mono ?_
      rintro _ _ ⟨rfl, rfl⟩
      go_wp2_with fail
      refine (O123.out _ _).mono ?_
      rintro _ w2 ⟨rfl, hw2⟩
      have B2 : Hid (Below w.heap.size w w2) := Lib.hid (by rw [← hw2]; exact below_step B1.out ((Below.refl _ _).alloc (Nat.le_refl _) _))
      clear hw2
      go_wp2_with fail
      refine (FL.out _ _).mono ?_
      rintro _ _ ⟨rfl, rfl⟩
      go_wp2_with fail
      go_ret
      exact ⟨rfl, B2.out⟩
    · go_enter Tryd.func28, Tryd.ntmps28
      go_upto_region 1 with fail
      rw [HW1.out]
      go_wp2_with fail
      refine (CO.out _ _ _).mono ?_
      rintro _ _ ⟨rfl, rfl⟩
      go_wp2_with fail
      refine (O123.out _ _).mono ?_
      rintro _ w2 ⟨rfl, hw2⟩
      have B2 : Hid (Below w.heap.size w w2) := Lib.hid (by rw [← hw2]; exact below_step B1.out ((Below.refl _ _).alloc (Nat.le_refl _) _))
      clear hw2
      go_wp2_with fail
      go_ret
      exact ⟨rfl, B2.out⟩
    · go_enter Tryd.func28, Tryd.ntmps28
      go_upto_region 1 with fail
      rw [HW1.out]
      go_wp2_with fail
      refine (CO.out _ _ _).mono ?_
      rintro _ _ ⟨rfl, rfl⟩
      go_wp2_with fail
      refine (O123.out _ _).mono ?_
      rintro _ w2 ⟨rfl, hw2⟩
      have B2 : Hid (Below w.heap.size w w2) := Lib.hid (by rw [← hw2]; exact below_step B1.out ((Below.refl _ _).alloc (Nat.le_refl _) _))
      clear hw2
      go_wp2_with fail
      go_ret
      exact ⟨rfl, B2.out⟩
  · have hk : PCheck.kindBy op a b c = 0 := by
      simp only [opAll, List.mem_cons, List.not_mem_nil, or_false, not_or] at hop
      obtain ⟨n1, n2, n3, n4, n5, n6, n7, n8, n9, n10, n11, n12, n13, n14, n15, n16, n17⟩ := hop
      unfold PCheck.kindBy
      rw [if_neg n1, if_neg n2, if_neg n3, if_neg n5, if_neg (by rintro (h | h); exact n7 h; exact n8 h), if_neg n9, if_neg (by rintro (h | h | h | h); exact n10 h; exact n11 h; exact n14 h; exact n15 h), if_neg (by rintro (h | h); exact n12 h; exact n13 h), if_neg (by rintro (h | h); exact n16 h; exact n17 h), if_neg n6]
    have e1 := kb_ne hop (s := [119, 104, 111, 108, 101]) (by decide); have e2 := kb_ne hop (s := [97, 109, 111, 117, 110, 116]) (by decide); have e3 := kb_ne hop (s := [114, 97, 116, 101]) (by decide)
    have e5 := kb_ne hop (s := [110, 101, 103]) (by decide); have e6 := kb_ne hop (s := [105, 102]) (by decide); have e7 := kb_ne hop (s := [43]) (by decide); have e8 := kb_ne hop (s := [45]) (by decide); have e9 := kb_ne hop (s := [42]) (by decide)
    have e10 := kb_ne hop (s := [60]) (by decide); have e11 := kb_ne hop (s := [60, 61]) (by decide); have e12 := kb_ne hop (s := [61]) (by decide); have e13 := kb_ne hop (s := [60, 62]) (by decide); have e14 := kb_ne hop (s := [62]) (by decide); have e15 := kb_ne hop (s := [62, 61]) (by decide)
    have e16 := kb_ne hop (s := [109, 105, 110]) (by decide); have e17 := kb_ne hop (s := [109, 97, 120]) (by decide)
    have HK := Lib.hid hk
    obtain ⟨w1, hw1, b1⟩ : ∃ w1, w.alloc (.cells #[.int .i64 a, .int .i64 b, .int .i64 c] 65) = w1 ∧ Below w.heap.size w w1 := ⟨_, rfl, (Below.refl _ _).alloc (Nat.le_refl _) _⟩
    have HW1 := Lib.hid hw1; have B1 := Lib.hid b1
    clear hop hk hw1 b1
    go_enter Tryd.func28, Tryd.ntmps28
    go_upto_region 1 with fail
    rw [HW1.out]
    go_wp2_with fail
    go_ret
    exact ⟨by rw [HK.out]; rfl, B1.out⟩
end Go.Proofs.YtkmehhhgdeiaeaaDoor
