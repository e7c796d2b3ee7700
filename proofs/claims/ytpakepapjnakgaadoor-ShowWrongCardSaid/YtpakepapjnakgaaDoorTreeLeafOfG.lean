/-
  What the landed reader makes of one token: an expression by itself, or that it is none.
-/
import Derived.Test.YtpakepapjnakgaaDoorTreeLeafG
import Derived.Test.YtpakepapjnakgaaDoorBK
import Derived.RegionTactic
import Derived.BigRegion

namespace Go.Proofs.YtpakepapjnakgaaDoor
open Go.RowKit
open PTree (Ex Tr tx kd pl)

/-- The answer: an expression, and whether it is one. -/
def leafV (y : Ex) (b : Bool) : Value := .tuple #[.agg (exC y).toArray, .bool b]
def zeroE : List Value := [.string ⟨#[]⟩, .string ⟨#[]⟩, .int .i64 0, .int .i64 0, .int .i64 0, .int .i64 0]
theorem below_undrew {w w' : World} (h : Below w.drew.heap.size w.drew w') : Below w.heap.size w w' := (Below.refl _ _).drew.trans h
theorem leaf_enter (w : World) (t t2 : TypeId) (vs : List Value) : ∃ w1, (w.alloc (.cells vs.toArray t)).alloc (.cells zeroE.toArray t2) = w1 ∧ Box w1 (w.heap.size + 1) zeroE ∧ Below w.heap.size w w1 :=
  ⟨_, rfl, Box.new' _ t2 zeroE (by simp), ((Below.refl _ _).alloc (Nat.le_refl _) _).alloc (by simp) _⟩
set_option maxHeartbeats 3200000 in
theorem leaf2_any (u : ByteArray) (p : Int) (w : World) (h : PLex.whole u.data.toList = true) :
    Calls Tryd.prog 78 #[.agg #[.int .i64 2, .string u, .int .i64 p]] w fun e w' => e = .returned (leafV ⟨[119, 104, 111, 108, 101], [], PTree.numOf u.data.toList, 0, 0, 0⟩ true) ∧ Below w.heap.size w w' := by
  have hl : u.size ≤ 18 := by
    have := (PLex.whole_digs h).2
    have e : u.data.toList.length = u.size := by simp
    omega
  have HA := Lib.hid (fun w => Tryd.strconv_Atoi u _ hl (PTree.atoi_num h) w)
  obtain ⟨n, hn⟩ : ∃ n, PTree.numOf u.data.toList = n := ⟨_, rfl⟩
  rw [hn] at HA ⊢
  clear h hl hn
  unfold leafV exC
  go_enter Tryd.func78, Tryd.ntmps78
  go_wp2_with fail
  refine (HA.out _).mono ?_
  rintro _ w2 ⟨rfl, t, hw⟩
  obtain ⟨w1, hw1, EB, b1⟩ := leaf_enter w 52 42 [.int .i64 2, .string u, .int .i64 p]
  unfold zeroE at hw1
  rw [hw1] at hw
  have b2 : Below w1.heap.size w1 w2 := by rw [hw]; exact Lib.bytesWorld_below _ _ _
  have EB2 := EB.on b2
  have B2 := Lib.hid (below_step b1 b2)
  obtain ⟨w3, hw3, eb3, ON⟩ := store6 EB2 (.string { data := #[119, 104, 111, 108, 101] }) (.string { data := #[] }) (.int .i64 n) (.int .i64 0) (.int .i64 0) (.int .i64 0)
  have B3 := Lib.hid (ON.below (Nat.le_succ _) B2.out)
  unfold zeroE at EB2
  obtain ⟨c0, c1, c2, c3, c4, c5⟩ := box6 EB2
  obtain ⟨f0, f1, f2, f3, f4, f5⟩ := box6f EB2
  obtain ⟨k0, k1, k2, k3, k4, k5⟩ := box6 eb3
  rw [← hw3] at k0 k1 k2 k3 k4 k5
  have hsz := EB2.1
  have HW3 := Lib.hid hw3
  clear hw hw1 EB b1 b2 EB2 eb3 ON hw3 HA B2
  go_wp2_with fail
  go_region
  go_wp2_with fail
  (try simp only [Exit.inBlock, Exit.then])
  refine bodyPost_ret (by simp [results, Tryd.results78, go_sem, k0, k1, k2, k3, k4, k5]; try rfl) rfl ?_
  exact ⟨rfl, by rw [HW3.out]; exact B3.out.drew⟩
set_option maxHeartbeats 3200000 in
theorem leaf3_any (u : ByteArray) (p : Int) (w : World) (hs : u.size ≤ 9223372036854775807) {n : Int} (h : PMoney.parse u.data.toList = some n) :
    Calls Tryd.prog 78 #[.agg #[.int .i64 3, .string u, .int .i64 p]] w fun e w' => e = .returned (leafV ⟨[97, 109, 111, 117, 110, 116], [], n, 0, 0, 0⟩ true) ∧ Below w.heap.size w w' := by
  have HA := Lib.hid (fun w => parse_any u w hs)
  rw [parseV_some h] at HA
  clear h hs
  unfold leafV exC
  go_enter Tryd.func78, Tryd.ntmps78
  go_wp2_with fail
  refine (HA.out _).mono ?_
  rintro _ w2 ⟨rfl, hw⟩
  obtain ⟨w1, hw1, EB, b1⟩ := leaf_enter w 52 42 [.int .i64 3, .string u, .int .i64 p]
  unfold zeroE at hw1
  rw [hw1] at hw
  subst hw
  have EB2 := EB
  have B2 := Lib.hid b1
  obtain ⟨w3, hw3, eb3, ON⟩ := store6 EB2 (.string { data := #[97, 109, 111, 117, 110, 116] }) (.string { data := #[] }) (.int .i64 n) (.int .i64 0) (.int .i64 0) (.int .i64 0)
  have B3 := Lib.hid (ON.below (Nat.le_succ _) B2.out)
  unfold zeroE at EB2
  obtain ⟨c0, c1, c2, c3, c4, c5⟩ := box6 EB2
  obtain ⟨f0, f1, f2, f3, f4, f5⟩ := box6f EB2
  obtain ⟨k0, k1, k2, k3, k4, k5⟩ := box6 eb3
  rw [← hw3] at k0 k1 k2 k3 k4 k5
  have hsz := EB2.1
  have HW3 := Lib.hid hw3
  clear hw1 EB b1 EB2 eb3 ON hw3 HA B2
  go_wp2_with fail
  go_wp2_with fail
  (try simp only [Exit.inBlock, Exit.then])
  refine bodyPost_ret (by simp [results, Tryd.results78, go_sem, k0, k1, k2, k3, k4, k5]; try rfl) rfl ?_
  exact ⟨rfl, by rw [HW3.out]; exact B3.out⟩
set_option maxHeartbeats 3200000 in
theorem leaf4_any (u : ByteArray) (p : Int) (w : World) (hs : u.size ≤ 9223372036854775807) {n : Int} (h : PRate.parse u.data.toList = some n) :
    Calls Tryd.prog 78 #[.agg #[.int .i64 4, .string u, .int .i64 p]] w fun e w' => e = .returned (leafV ⟨[114, 97, 116, 101], [], n, 0, 0, 0⟩ true) ∧ Below w.heap.size w w' := by
  have HA := Lib.hid (fun w => rparse_any u w hs)
  rw [rparseV_some h] at HA
  clear h hs
  unfold leafV exC
  go_enter Tryd.func78, Tryd.ntmps78
  go_wp2_with fail
  refine (HA.out _).mono ?_
  rintro _ w2 ⟨rfl, hw⟩
  obtain ⟨w1, hw1, EB, b1⟩ := leaf_enter w 52 42 [.int .i64 4, .string u, .int .i64 p]
  unfold zeroE at hw1
  rw [hw1] at hw
  subst hw
  have EB2 := EB
  have B2 := Lib.hid b1
  obtain ⟨w3, hw3, eb3, ON⟩ := store6 EB2 (.string { data := #[114, 97, 116, 101] }) (.string { data := #[] }) (.int .i64 n) (.int .i64 0) (.int .i64 0) (.int .i64 0)
  have B3 := Lib.hid (ON.below (Nat.le_succ _) B2.out)
  unfold zeroE at EB2
  obtain ⟨c0, c1, c2, c3, c4, c5⟩ := box6 EB2
  obtain ⟨f0, f1, f2, f3, f4, f5⟩ := box6f EB2
  obtain ⟨k0, k1, k2, k3, k4, k5⟩ := box6 eb3
  rw [← hw3] at k0 k1 k2 k3 k4 k5
  have hsz := EB2.1
  have HW3 := Lib.hid hw3
  clear hw1 EB b1 EB2 eb3 ON hw3 HA B2
  go_wp2_with fail
  go_wp2_with fail
  (try simp only [Exit.inBlock, Exit.then])
  refine bodyPost_ret (by simp [results, Tryd.results78, go_sem, k0, k1, k2, k3, k4, k5]; try rfl) rfl ?_
  exact ⟨rfl, by rw [HW3.out]; exact B3.out⟩
set_option maxHeartbeats 3200000 in
theorem leafn_any (k : Nat) (u : ByteArray) (p : Int) (w : World) (h2 : k ≠ 2) (h3 : k ≠ 3) (h4 : k ≠ 4) :
    Calls Tryd.prog 78 #[.agg #[.int .i64 k, .string u, .int .i64 p]] w fun e w' => e = .returned (leafV ⟨[110, 97, 109, 101], u.data.toList, 0, 0, 0, 0⟩ (decide (k = 1 ∧ u.data.toList ∉ PTree.takenL))) ∧ Below w.heap.size w w' := by
  have HA := Lib.hid (fun w => isname_any k u p w)
  have n2 : ((k : Int) == 2) = false := by rw [beq_eq_false_iff_ne]; omega
  have n3 : ((k : Int) == 3) = false := by rw [beq_eq_false_iff_ne]; omega
  have n4 : ((k : Int) == 4) = false := by rw [beq_eq_false_iff_ne]; omega
  obtain ⟨b, hb⟩ : ∃ b, decide (k = 1 ∧ u.data.toList ∉ PTree.takenL) = b := ⟨_, rfl⟩
  rw [hb] at HA ⊢
  have hu : (⟨u.data.toList.toArray⟩ : ByteArray) = u := by cases u; simp
  unfold leafV exC
  simp only [hu]
  clear hb h2 h3 h4 hu
  go_enter Tryd.func78, Tryd.ntmps78
  go_wp2_with fail
  obtain ⟨w1, hw1, EB, b1⟩ := leaf_enter w 52 42 [.int .i64 k, .string u, .int .i64 p]
  have TB : Box w1 w.heap.size [.int .i64 k, .string u, .int .i64 p] := by rw [← hw1]; exact (Box.new w 52 [.int .i64 k, .string u, .int .i64 p]).alloc _
  unfold zeroE at hw1
  rw [hw1]
  obtain ⟨L, hL⟩ : ∃ L, w.heap.size = L := ⟨_, rfl⟩
  rw [hL] at EB TB b1 ⊢
  have EB := Lib.hid EB; have TB := Lib.hid TB; have B1 := Lib.hid b1
  obtain ⟨t0, t1, t2⟩ := box3 TB.out
  obtain ⟨c0, c1, c2, c3, c4, c5⟩ := box6 EB.out
  obtain ⟨f0, f1, f2, f3, f4, f5⟩ := box6f EB.out
  have hs1 := EB.out.1
  have FIN : Hid (∀ w6, Below w1.heap.size w1 w6 → ∃ w7, ((((((w6.setCell ⟨L + 1, 0, none⟩ (.string { data := #[110, 97, 109, 101] })).setCell ⟨L + 1, 1, none⟩ (.string u)).setCell ⟨L + 1, 2, none⟩ (.int .i64 0)).setCell ⟨L + 1, 3, none⟩ (.int .i64 0)).setCell ⟨L + 1, 4, none⟩ (.int .i64 0)).setCell ⟨L + 1, 5, none⟩ (.int .i64 0)) = w7 ∧ Box w7 (L + 1) [.string { data := #[110, 97, 109, 101] }, .string u, .int .i64 0, .int .i64 0, .int .i64 0, .int .i64 0] ∧ Below L w w7) := Lib.hid (fun w6 hb => by
    obtain ⟨w7, e, h, on⟩ := store6 (EB.out.on hb) (.string { data := #[110, 97, 109, 101] }) (.string u) (.int .i64 0) (.int .i64 0) (.int .i64 0) (.int .i64 0)
    exact ⟨w7, e, h, on.below (Nat.le_succ _) (B1.out.trans (hb.mono (by omega)))⟩)
  have HLw := Lib.hid hL
  clear hw1 hL b1 B1
  unfold zeroE at EB
  go_region_law (first
    | (go_simp; go_at_call 30; refine (HA.out _).mono ?_; rintro _ w6 ⟨rfl, hb6⟩; have E6 := EB.out.on (below_undrew hb6); have T6 := TB.out.on (below_undrew hb6); obtain ⟨t0', t1', t2'⟩ := box3 T6; obtain ⟨c0', c1', c2', c3', c4', c5'⟩ := box6 E6; obtain ⟨f0', f1', f2', f3', f4', f5'⟩ := box6f E6; have hs6 := E6.1; have FF := Lib.hid (FIN.out _ (below_undrew hb6)); clear E6 T6))
  all_goals
    obtain ⟨w7, hw7, XB7, B7⟩ := FF.out
    obtain ⟨k0, k1, k2, k3, k4, k5⟩ := box6 XB7
    rw [← hw7] at k0 k1 k2 k3 k4 k5
    have HW7 := Lib.hid hw7; have BB := Lib.hid B7
    clear hw7 XB7 B7 EB TB FIN FF hb6 t0 t1 t2 c0 c1 c2 c3 c4 c5 f0 f1 f2 f3 f4 f5
    go_wp2_with fail
    (try simp only [Exit.inBlock, Exit.then])
    refine bodyPost_ret (by simp [results, Tryd.results78, go_sem, k0, k1, k2, k3, k4, k5]; try rfl) rfl ?_
    exact ⟨rfl, by rw [HW7.out, HLw.out]; exact BB.out⟩
end Go.Proofs.YtpakepapjnakgaaDoor
