/-
  What the landed reader answers of one token: whether it is a word of a kind, a name, a sign that compares, an expression by itself.
  What the landed reader makes of one token: an expression by itself, or that it is none.
-/
import Derived.Test.YtdkcdgjpcojdfaaGreatDoorPM
import Derived.Test.YtdkcdgjpcojdfaaGreatDoorTreeRdG
import Derived.Test.YtdkcdgjpcojdfaaGreatDoorShelf
import Derived.Test.YtdkcdgjpcojdfaaGreatDoorMP
import Derived.Lib.AtoiErrMem
import Derived.Test.YtdkcdgjpcojdfaaGreatDoorBK
import Derived.RegionTactic
import Derived.BigRegion

namespace Go.Proofs.YtdkcdgjpcojdfaaGreatDoor
open Go.RowKit
open PTree (Ex Tr tx kd pl)

theorem bq {u : ByteArray} {l : List UInt8} (h : u.data.toList = l) : (u.toList == l) = true := by rw [beq_iff_eq, ByteArray.toList_eq]; exact h
theorem bn {u : ByteArray} {l : List UInt8} (h : u.data.toList ≠ l) : (u.toList == l) = false := by rw [beq_eq_false_iff_ne, ByteArray.toList_eq]; exact h
set_option maxHeartbeats 1600000 in
theorem isrk_any (u : ByteArray) (w : World) : Calls Tryz.prog 51 #[.string u] w fun e w' => e = .returned (.bool (decide (u.data.toList ∈ PTree.kinds))) ∧ w = w' := by
  by_cases h1 : u.data.toList = [101, 97, 114, 110]
  · rw [h1]; have g1 := bq h1; clear h1
    go_enter Tryz.func51, Tryz.ntmps51
    go_wp2_with fail
    go_ret
    exact ⟨rfl, rfl⟩
  by_cases h2 : u.data.toList = [112, 114, 101, 116, 97, 120]
  · rw [h2]; have g1 := bn h1; have g2 := bq h2; clear h1 h2
    go_enter Tryz.func51, Tryz.ntmps51
    go_wp2_with fail
    go_ret
    exact ⟨rfl, rfl⟩
  by_cases h3 : u.data.toList = [112, 111, 115, 116]
  · rw [h3]; have g1 := bn h1; have g2 := bn h2; have g3 := bq h3; clear h1 h2 h3
    go_enter Tryz.func51, Tryz.ntmps51
    go_wp2_with fail
    go_ret
    exact ⟨rfl, rfl⟩
  by_cases h4 : u.data.toList = [108, 101, 116]
  · rw [h4]; have g1 := bn h1; have g2 := bn h2; have g3 := bn h3; have g4 := bq h4; clear h1 h2 h3 h4
    go_enter Tryz.func51, Tryz.ntmps51
    go_wp2_with fail
    go_ret
    exact ⟨rfl, rfl⟩
  have hf : decide (u.data.toList ∈ PTree.kinds) = false := decide_eq_false (by simp [PTree.kinds]; exact ⟨by simpa using h1, by simpa using h2, by simpa using h3, by simpa using h4⟩)
  have HF := Lib.hid hf
  have g1 := bn h1; have g2 := bn h2; have g3 := bn h3; have g4 := bn h4
  clear h1 h2 h3 h4 hf
  go_enter Tryz.func51, Tryz.ntmps51
  go_wp2_with fail
  go_ret
  exact ⟨by rw [HF.out]; rfl, rfl⟩

set_option maxHeartbeats 3200000 in
theorem isname_any (k : Nat) (u : ByteArray) (at_ : Int) (w : World) : Calls Tryz.prog 53 #[.agg #[.int .i64 k, .string u, .int .i64 at_]] w fun e w' => e = .returned (.bool (decide (k = 1 ∧ u.data.toList ∉ PTree.takenL))) ∧ Below w.heap.size w w' := by
  by_cases hk : k = 1
  · have ek : ((k : Int) != 1) = false := by rw [hk]; rfl
    by_cases hr : u.data.toList ∈ PTree.kinds
    · have HR := Lib.hid (fun w => isrk_any u w)
      rw [decide_eq_true hr] at HR
      have hf : decide (k = 1 ∧ u.data.toList ∉ PTree.takenL) = false := decide_eq_false (fun h => h.2 (by
        simp only [PTree.kinds, PTree.takenL, List.mem_cons, List.not_mem_nil, or_false] at hr ⊢
        rcases hr with h | h | h | h <;> simp [h]))
      have HF := Lib.hid hf
      clear hk hr hf
      go_enter Tryz.func53, Tryz.ntmps53
      go_wp2_with fail
      refine (HR.out _).mono ?_
      rintro _ _ ⟨rfl, rfl⟩
      go_wp2_with fail
      go_ret
      exact ⟨by rw [HF.out]; rfl, (Below.refl _ _).alloc (Nat.le_refl _) _⟩
    · have HR := Lib.hid (fun w => isrk_any u w)
      rw [decide_eq_false hr] at HR
      have tail : ∀ (b : Bool), decide (k = 1 ∧ u.data.toList ∉ PTree.takenL) = b → b = true ∨ b = false := fun b _ => by cases b <;> simp
      by_cases h1 : u.data.toList = [105, 102]
      · have HF : Hid (decide (k = 1 ∧ u.data.toList ∉ PTree.takenL) = false) := Lib.hid (decide_eq_false (fun h => h.2 (by rw [h1]; decide)))
        have g1 := bq h1; clear h1 hk hr tail
        go_enter Tryz.func53, Tryz.ntmps53
        go_wp2_with fail
        refine (HR.out _).mono ?_
        rintro _ _ ⟨rfl, rfl⟩
        go_wp2_with fail
        go_ret
        exact ⟨by rw [HF.out]; rfl, (Below.refl _ _).alloc (Nat.le_refl _) _⟩
      by_cases h2 : u.data.toList = [116, 104, 101, 110]
      · have HF : Hid (decide (k = 1 ∧ u.data.toList ∉ PTree.takenL) = false) := Lib.hid (decide_eq_false (fun h => h.2 (by rw [h2]; decide)))
        have g1 := bn h1; have g2 := bq h2; clear h1 h2 hk hr tail
        go_enter Tryz.func53, Tryz.ntmps53
        go_wp2_with fail
        refine (HR.out _).mono ?_
        rintro _ _ ⟨rfl, rfl⟩
        go_wp2_with fail
        go_ret
        exact ⟨by rw [HF.out]; rfl, (Below.refl _ _).alloc (Nat.le_refl _) _⟩
      by_cases h3 : u.data.toList = [101, 108, 115, 101]
      · have HF : Hid (decide (k = 1 ∧ u.data.toList ∉ PTree.takenL) = false) := Lib.hid (decide_eq_false (fun h => h.2 (by rw [h3]; decide)))
        have g1 := bn h1; have g2 := bn h2; have g3 := bq h3; clear h1 h2 h3 hk hr tail
        go_enter Tryz.func53, Tryz.ntmps53
        go_wp2_with fail
        refine (HR.out _).mono ?_
        rintro _ _ ⟨rfl, rfl⟩
        go_wp2_with fail
        go_ret
        exact ⟨by rw [HF.out]; rfl, (Below.refl _ _).alloc (Nat.le_refl _) _⟩
      by_cases h4 : u.data.toList = [109, 105, 110]
      · have HF : Hid (decide (k = 1 ∧ u.data.toList ∉ PTree.takenL) = false) := Lib.hid (decide_eq_false (fun h => h.2 (by rw [h4]; decide)))
        have g1 := bn h1; have g2 := bn h2; have g3 := bn h3; have g4 := bq h4; clear h1 h2 h3 h4 hk hr tail
        go_enter Tryz.func53, Tryz.ntmps53
        go_wp2_with fail
        refine (HR.out _).mono ?_
        rintro _ _ ⟨rfl, rfl⟩
        go_wp2_with fail
        go_ret
        exact ⟨by rw [HF.out]; rfl, (Below.refl _ _).alloc (Nat.le_refl _) _⟩
      by_cases h5 : u.data.toList = [109, 97, 120]
      · have HF : Hid (decide (k = 1 ∧ u.data.toList ∉ PTree.takenL) = false) := Lib.hid (decide_eq_false (fun h => h.2 (by rw [h5]; decide)))
        have g1 := bn h1; have g2 := bn h2; have g3 := bn h3; have g4 := bn h4; have g5 := bq h5; clear h1 h2 h3 h4 h5 hk hr tail
        go_enter Tryz.func53, Tryz.ntmps53
        go_wp2_with fail
        refine (HR.out _).mono ?_
        rintro _ _ ⟨rfl, rfl⟩
        go_wp2_with fail
        go_ret
        exact ⟨by rw [HF.out]; rfl, (Below.refl _ _).alloc (Nat.le_refl _) _⟩
      have HF : Hid (decide (k = 1 ∧ u.data.toList ∉ PTree.takenL) = true) := Lib.hid (decide_eq_true ⟨hk, fun h => by
        simp only [PTree.kinds, PTree.takenL, List.mem_cons, List.not_mem_nil, or_false] at hr h
        rcases h with h | h | h | h | h | h | h | h | h <;> first | exact h1 h | exact h2 h | exact h3 h | exact h4 h | exact h5 h | exact hr (by simp [h])⟩)
      have g1 := bn h1; have g2 := bn h2; have g3 := bn h3; have g4 := bn h4; have g5 := bn h5; clear h1 h2 h3 h4 h5 hk hr tail
      go_enter Tryz.func53, Tryz.ntmps53
      go_wp2_with fail
      refine (HR.out _).mono ?_
      rintro _ _ ⟨rfl, rfl⟩
      go_wp2_with fail
      go_ret
      exact ⟨by rw [HF.out]; rfl, (Below.refl _ _).alloc (Nat.le_refl _) _⟩
  · have ek : ((k : Int) != 1) = true := by rw [bne_iff_ne]; omega
    have HF : Hid (decide (k = 1 ∧ u.data.toList ∉ PTree.takenL) = false) := Lib.hid (decide_eq_false (fun h => hk h.1))
    clear hk
    go_enter Tryz.func53, Tryz.ntmps53
    go_wp2_with fail
    go_ret
    exact ⟨by rw [HF.out]; rfl, (Below.refl _ _).alloc (Nat.le_refl _) _⟩
set_option maxHeartbeats 3200000 in
theorem cmp_any (u : ByteArray) (w : World) : Calls Tryz.prog 82 #[.string u] w fun e w' => e = .returned (.bool (decide (u.data.toList ∈ PTree.level 0))) ∧ w = w' := by
  by_cases h1 : u.data.toList = [60]
  · rw [h1]; have g1 := bq h1; clear h1
    go_enter Tryz.func82, Tryz.ntmps82
    go_wp2_with fail
    go_ret
    exact ⟨rfl, rfl⟩
  have g1 := bn h1
  by_cases h2 : u.data.toList = [60, 61]
  · rw [h2]; have g2 := bq h2; clear h1 h2
    go_enter Tryz.func82, Tryz.ntmps82
    go_wp2_with fail
    go_ret
    exact ⟨rfl, rfl⟩
  have g2 := bn h2
  by_cases h3 : u.data.toList = [61]
  · rw [h3]; have g3 := bq h3; clear h1 h2 h3
    go_enter Tryz.func82, Tryz.ntmps82
    go_wp2_with fail
    go_ret
    exact ⟨rfl, rfl⟩
  have g3 := bn h3
  by_cases h4 : u.data.toList = [60, 62]
  · rw [h4]; have g4 := bq h4; clear h1 h2 h3 h4
    go_enter Tryz.func82, Tryz.ntmps82
    go_wp2_with fail
    go_ret
    exact ⟨rfl, rfl⟩
  have g4 := bn h4
  by_cases h5 : u.data.toList = [62]
  · rw [h5]; have g5 := bq h5; clear h1 h2 h3 h4 h5
    go_enter Tryz.func82, Tryz.ntmps82
    go_wp2_with fail
    go_ret
    exact ⟨rfl, rfl⟩
  have g5 := bn h5
  by_cases h6 : u.data.toList = [62, 61]
  · rw [h6]; have g6 := bq h6; clear h1 h2 h3 h4 h5 h6
    go_enter Tryz.func82, Tryz.ntmps82
    go_wp2_with fail
    go_ret
    exact ⟨rfl, rfl⟩
  have g6 := bn h6
  have HF : Hid (decide (u.data.toList ∈ PTree.level 0) = false) := Lib.hid (decide_eq_false (fun h => by
    simp only [PTree.level, List.mem_cons, List.not_mem_nil, or_false] at h
    rcases h with h | h | h | h | h | h <;> first | exact h1 h | exact h2 h | exact h3 h | exact h4 h | exact h5 h | exact h6 h))
  clear h1 h2 h3 h4 h5 h6
  go_enter Tryz.func82, Tryz.ntmps82
  go_wp2_with fail
  go_ret
  exact ⟨by rw [HF.out]; rfl, rfl⟩
end Go.Proofs.YtdkcdgjpcojdfaaGreatDoor

namespace Go.Proofs.YtdkcdgjpcojdfaaGreatDoor
open Go.RowKit
open PTree (Ex Tr tx kd pl)

def leafV (y : Ex) (b : Bool) : Value := .tuple #[.agg (exC y).toArray, .bool b]
def zeroE : List Value := [.string ⟨#[]⟩, .string ⟨#[]⟩, .int .i64 0, .int .i64 0, .int .i64 0, .int .i64 0]
theorem below_undrew {w w' : World} (h : Below w.drew.heap.size w.drew w') : Below w.heap.size w w' := (Below.refl _ _).drew.trans h
theorem leaf_enter (w : World) (t t2 : TypeId) (vs : List Value) : ∃ w1, (w.alloc (.cells vs.toArray t)).alloc (.cells zeroE.toArray t2) = w1 ∧ Box w1 (w.heap.size + 1) zeroE ∧ Below w.heap.size w w1 :=
  ⟨_, rfl, Box.new' _ t2 zeroE (by simp), ((Below.refl _ _).alloc (Nat.le_refl _) _).alloc (by simp) _⟩
set_option maxHeartbeats 3200000 in
theorem leaf2_any (u : ByteArray) (p : Int) (w : World) (h : PLex.whole u.data.toList = true) :
    Calls Tryz.prog 129 #[.agg #[.int .i64 2, .string u, .int .i64 p]] w fun e w' => e = .returned (leafV ⟨[119, 104, 111, 108, 101], [], PTree.numOf u.data.toList, 0, 0, 0⟩ true) ∧ Below w.heap.size w w' := by
  have hl : u.size ≤ 18 := by
    have := (PLex.whole_digs h).2
    have e : u.data.toList.length = u.size := by simp
    omega
  have HA := Lib.hid (fun w => Tryz.strconv_Atoi u _ hl (PTree.atoi_num h) w)
  obtain ⟨n, hn⟩ : ∃ n, PTree.numOf u.data.toList = n := ⟨_, rfl⟩
  rw [hn] at HA ⊢
  clear h hl hn
  unfold leafV exC
  go_enter Tryz.func129, Tryz.ntmps129
  go_wp2_with fail
  refine (HA.out _).mono ?_
  rintro _ w2 ⟨rfl, t, hw⟩
  obtain ⟨w1, hw1, EB, b1⟩ := leaf_enter w 82 58 [.int .i64 2, .string u, .int .i64 p]
  unfold zeroE at hw1
  rw [hw1] at hw
  have b2 : Below w1.heap.size w1 w2 := by rw [hw]; exact Lib.bytesWorld_below _ _ _
  have EB2 := EB.on b2
  have B2 := Lib.hid (below_step b1 b2)
  obtain ⟨w3, hw3, eb3, ON⟩ := store6 EB2 (.string { data := #[119, 104, 111, 108, 101] }) (.string { data := #[] }) (.int .i64 n) (.int .i64 0) (.int .i64 0) (.int .i64 0)
  have B3 := Lib.hid (ON.below (Nat.le_succ _) B2.out)
  unfold zeroE at EB2
  obtain ⟨c0, c1, c2, c3, c4, c5⟩ := box6 EB2
  obtain ⟨f0, f1, f2, f3, f4, f5⟩ := box6f EB2
  obtain ⟨k0, k1, k2, k3, k4, k5⟩ := box6 eb3
  rw [← hw3] at k0 k1 k2 k3 k4 k5
  have hsz := EB2.1
  have HW3 := Lib.hid hw3
  clear hw hw1 EB b1 b2 EB2 eb3 ON hw3 HA B2
  go_wp2_with fail
  go_region
  go_wp2_with fail
  (try simp only [Exit.inBlock, Exit.then])
  refine bodyPost_ret (by simp [results, Tryz.results129, go_sem, k0, k1, k2, k3, k4, k5]; try rfl) rfl ?_
  exact ⟨rfl, by rw [HW3.out]; exact B3.out.drew⟩
set_option maxHeartbeats 3200000 in
theorem leaf3_any (u : ByteArray) (p : Int) (w : World) (hs : u.size ≤ 9223372036854775807) {n : Int} (h : PMoney.parse u.data.toList = some n) :
    Calls Tryz.prog 129 #[.agg #[.int .i64 3, .string u, .int .i64 p]] w fun e w' => e = .returned (leafV ⟨[97, 109, 111, 117, 110, 116], [], n, 0, 0, 0⟩ true) ∧ Below w.heap.size w w' := by
  have HA := Lib.hid (fun w => parse_any u w hs)
  rw [parseV_some h] at HA
  clear h hs
  unfold leafV exC
  go_enter Tryz.func129, Tryz.ntmps129
  go_wp2_with fail
  refine (HA.out _).mono ?_
  rintro _ w2 ⟨rfl, hw⟩
  obtain ⟨w1, hw1, EB, b1⟩ := leaf_enter w 82 58 [.int .i64 3, .string u, .int .i64 p]
  unfold zeroE at hw1
  rw [hw1] at hw
  subst hw
  have EB2 := EB
  have B2 := Lib.hid b1
  obtain ⟨w3, hw3, eb3, ON⟩ := store6 EB2 (.string { data := #[97, 109, 111, 117, 110, 116] }) (.string { data := #[] }) (.int .i64 n) (.int .i64 0) (.int .i64 0) (.int .i64 0)
  have B3 := Lib.hid (ON.below (Nat.le_succ _) B2.out)
  unfold zeroE at EB2
  obtain ⟨c0, c1, c2, c3, c4, c5⟩ := box6 EB2
  obtain ⟨f0, f1, f2, f3, f4, f5⟩ := box6f EB2
  obtain ⟨k0, k1, k2, k3, k4, k5⟩ := box6 eb3
  rw [← hw3] at k0 k1 k2 k3 k4 k5
  have hsz := EB2.1
  have HW3 := Lib.hid hw3
  clear hw1 EB b1 EB2 eb3 ON hw3 HA B2
  go_wp2_with fail
  go_wp2_with fail
  (try simp only [Exit.inBlock, Exit.then])
  refine bodyPost_ret (by simp [results, Tryz.results129, go_sem, k0, k1, k2, k3, k4, k5]; try rfl) rfl ?_
  exact ⟨rfl, by rw [HW3.out]; exact B3.out⟩
set_option maxHeartbeats 3200000 in
theorem leaf4_any (u : ByteArray) (p : Int) (w : World) (hs : u.size ≤ 9223372036854775807) {n : Int} (h : PRate.parse u.data.toList = some n) :
    Calls Tryz.prog 129 #[.agg #[.int .i64 4, .string u, .int .i64 p]] w fun e w' => e = .returned (leafV ⟨[114, 97, 116, 101], [], n, 0, 0, 0⟩ true) ∧ Below w.heap.size w w' := by
  have HA := Lib.hid (fun w => rparse_any u w hs)
  rw [rparseV_some h] at HA
  clear h hs
  unfold leafV exC
  go_enter Tryz.func129, Tryz.ntmps129
  go_wp2_with fail
  refine (HA.out _).mono ?_
  rintro _ w2 ⟨rfl, hw⟩
  obtain ⟨w1, hw1, EB, b1⟩ := leaf_enter w 82 58 [.int .i64 4, .string u, .int .i64 p]
  unfold zeroE at hw1
  rw [hw1] at hw
  subst hw
  have EB2 := EB
  have B2 := Lib.hid b1
  obtain ⟨w3, hw3, eb3, ON⟩ := store6 EB2 (.string { data := #[114, 97, 116, 101] }) (.string { data := #[] }) (.int .i64 n) (.int .i64 0) (.int .i64 0) (.int .i64 0)
  have B3 := Lib.hid (ON.below (Nat.le_succ _) B2.out)
  unfold zeroE at EB2
  obtain ⟨c0, c1, c2, c3, c4, c5⟩ := box6 EB2
  obtain ⟨f0, f1, f2, f3, f4, f5⟩ := box6f EB2
  obtain ⟨k0, k1, k2, k3, k4, k5⟩ := box6 eb3
  rw [← hw3] at k0 k1 k2 k3 k4 k5
  have hsz := EB2.1
  have HW3 := Lib.hid hw3
  clear hw1 EB b1 EB2 eb3 ON hw3 HA B2
  go_wp2_with fail
  go_wp2_with fail
  (try simp only [Exit.inBlock, Exit.then])
  refine bodyPost_ret (by simp [results, Tryz.results129, go_sem, k0, k1, k2, k3, k4, k5]; try rfl) rfl ?_
  exact ⟨rfl, by rw [HW3.out]; exact B3.out⟩
set_option maxHeartbeats 3200000 in
theorem leafn_any (k : Nat) (u : ByteArray) (p : Int) (w : World) (h2 : k ≠ 2) (h3 : k ≠ 3) (h4 : k ≠ 4) :
    Calls Tryz.prog 129 #[.agg #[.int .i64 k, .string u, .int .i64 p]] w fun e w' => e = .returned (leafV ⟨[110, 97, 109, 101], u.data.toList, 0, 0, 0, 0⟩ (decide (k = 1 ∧ u.data.toList ∉ PTree.takenL))) ∧ Below w.heap.size w w' := by
  have HA := Lib.hid (fun w => isname_any k u p w)
  have n2 : ((k : Int) == 2) = false := by rw [beq_eq_false_iff_ne]; omega
  have n3 : ((k : Int) == 3) = false := by rw [beq_eq_false_iff_ne]; omega
  have n4 : ((k : Int) == 4) = false := by rw [beq_eq_false_iff_ne]; omega
  obtain ⟨b, hb⟩ : ∃ b, decide (k = 1 ∧ u.data.toList ∉ PTree.takenL) = b := ⟨_, rfl⟩
  rw [hb] at HA ⊢
  have hu : (⟨u.data.toList.toArray⟩ : ByteArray) = u := by cases u; simp
  unfold leafV exC
  simp only [hu]
  clear hb h2 h3 h4 hu
  go_enter Tryz.func129, Tryz.ntmps129
  go_wp2_with fail
  obtain ⟨w1, hw1, EB, b1⟩ := leaf_enter w 82 58 [.int .i64 k, .string u, .int .i64 p]
  have TB : Box w1 w.heap.size [.int .i64 k, .string u, .int .i64 p] := by rw [← hw1]; exact (Box.new w 82 [.int .i64 k, .string u, .int .i64 p]).alloc _
  unfold zeroE at hw1
  rw [hw1]
  obtain ⟨L, hL⟩ : ∃ L, w.heap.size = L := ⟨_, rfl⟩
  rw [hL] at EB TB b1 ⊢
  have EB := Lib.hid EB; have TB := Lib.hid TB; have B1 := Lib.hid b1
  obtain ⟨t0, t1, t2⟩ := box3 TB.out
  obtain ⟨c0, c1, c2, c3, c4, c5⟩ := box6 EB.out
  obtain ⟨f0, f1, f2, f3, f4, f5⟩ := box6f EB.out
  have hs1 := EB.out.1
  have FIN : Hid (∀ w6, Below w1.heap.size w1 w6 → ∃ w7, ((((((w6.setCell ⟨L + 1, 0, none⟩ (.string { data := #[110, 97, 109, 101] })).setCell ⟨L + 1, 1, none⟩ (.string u)).setCell ⟨L + 1, 2, none⟩ (.int .i64 0)).setCell ⟨L + 1, 3, none⟩ (.int .i64 0)).setCell ⟨L + 1, 4, none⟩ (.int .i64 0)).setCell ⟨L + 1, 5, none⟩ (.int .i64 0)) = w7 ∧ Box w7 (L + 1) [.string { data := #[110, 97, 109, 101] }, .string u, .int .i64 0, .int .i64 0, .int .i64 0, .int .i64 0] ∧ Below L w w7) := Lib.hid (fun w6 hb => by
    obtain ⟨w7, e, h, on⟩ := store6 (EB.out.on hb) (.string { data := #[110, 97, 109, 101] }) (.string u) (.int .i64 0) (.int .i64 0) (.int .i64 0) (.int .i64 0)
    exact ⟨w7, e, h, on.below (Nat.le_succ _) (B1.out.trans (hb.mono (by omega)))⟩)
  have HLw := Lib.hid hL
  clear hw1 hL b1 B1
  unfold zeroE at EB
  go_region_law (first
    | (go_simp; go_at_call 53; refine (HA.out _).mono ?_; rintro _ w6 ⟨rfl, hb6⟩; have E6 := EB.out.on (below_undrew hb6); have T6 := TB.out.on (below_undrew hb6); obtain ⟨t0', t1', t2'⟩ := box3 T6; obtain ⟨c0', c1', c2', c3', c4', c5'⟩ := box6 E6; obtain ⟨f0', f1', f2', f3', f4', f5'⟩ := box6f E6; have hs6 := E6.1; have FF := Lib.hid (FIN.out _ (below_undrew hb6)); clear E6 T6))
  all_goals
    obtain ⟨w7, hw7, XB7, B7⟩ := FF.out
    obtain ⟨k0, k1, k2, k3, k4, k5⟩ := box6 XB7
    rw [← hw7] at k0 k1 k2 k3 k4 k5
    have HW7 := Lib.hid hw7; have BB := Lib.hid B7
    clear hw7 XB7 B7 EB TB FIN FF hb6 t0 t1 t2 c0 c1 c2 c3 c4 c5 f0 f1 f2 f3 f4 f5
    go_wp2_with fail
    (try simp only [Exit.inBlock, Exit.then])
    refine bodyPost_ret (by simp [results, Tryz.results129, go_sem, k0, k1, k2, k3, k4, k5]; try rfl) rfl ?_
    exact ⟨rfl, by rw [HW7.out, HLw.out]; exact BB.out⟩
end Go.Proofs.YtdkcdgjpcojdfaaGreatDoor
