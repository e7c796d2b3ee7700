/-
  Which of two payments is ahead: what the landed bank answers.
-/
import Derived.Test.YtbnnmakmgleikaaDoorBkRight
import Derived.StillTailTactics
set_option linter.unusedVariables false
namespace Go.Proofs.YtbnnmakmgleikaaDoor
open Go.RowKit
open PBank (Pay)

set_option maxRecDepth 100000 in
set_option maxHeartbeats 3200000 in
theorem kcompare_any (p q : Pay) (w : World) : Calls Tryd.prog 23 #[.agg #[.int .u8 p.kind, .int .i64 p.num, .int .i64 p.amt], .agg #[.int .u8 q.kind, .int .i64 q.num, .int .i64 q.amt]] w (IntB (cmpV p q) w) := by
  obtain ⟨Q, hQ⟩ : ∃ Q, IntB (cmpV p q) w = Q := ⟨_, rfl⟩
  rw [hQ]
  obtain ⟨k, z, a⟩ := p
  obtain ⟨k', z', a'⟩ := q
  obtain ⟨c1, hc1⟩ : ∃ c, cmp3 k' k = c := ⟨_, rfl⟩
  obtain ⟨c2, hc2⟩ : ∃ c, cmp3 z z' = c := ⟨_, rfl⟩
  have F : Hid (∀ (w' : World), Below w.heap.size w w' → Q (.returned (.int .i64 (if c1 ≠ 0 then c1 else c2))) w') := Lib.hid (fun w' hb => by
    rw [← hQ]
    refine ⟨?_, hb⟩
    unfold cmpV
    rw [← hc1, ← hc2])
  obtain ⟨w1, hw1, XB, b1⟩ : ∃ w1, w.alloc (.cells #[.int .u8 k, .int .i64 z, .int .i64 a] 44) = w1 ∧ Box w1 w.heap.size [.int .u8 k, .int .i64 z, .int .i64 a] ∧ Below w.heap.size w w1 := ⟨_, rfl, Box.new _ _ [.int .u8 k, .int .i64 z, .int .i64 a], (Below.refl _ _).alloc (Nat.le_refl _) _⟩
  obtain ⟨w2, hw2, YB, b2⟩ : ∃ w2, w1.alloc (.cells #[.int .u8 k', .int .i64 z', .int .i64 a'] 44) = w2 ∧ Box w2 w1.heap.size [.int .u8 k', .int .i64 z', .int .i64 a'] ∧ Below w1.heap.size w1 w2 := ⟨_, rfl, Box.new _ _ [.int .u8 k', .int .i64 z', .int .i64 a'], (Below.refl _ _).alloc (Nat.le_refl _) _⟩
  obtain ⟨x0, x1, x2⟩ := b3 (XB.on b2)
  obtain ⟨y0, y1, y2⟩ := b3 YB
  have hsx : w.heap.size < w2.heap.size := (XB.on b2).1
  have hsy := YB.1
  have B2 := Lib.hid (below_step b1 b2); have HW1 := Lib.hid hw1; have HW2 := Lib.hid hw2
  have hs1 : w1.heap.size = w.heap.size + 1 := by rw [← hw1]; simp
  rw [hs1] at y0 y1 y2 hsy
  have C1 := Lib.hid (fun w => (by rw [← hc1]; exact cmp_u8 k' k w : Calls Tryd.prog 36 #[.int .u8 k', .int .u8 k] w fun e w' => e = .returned (.int .i64 c1) ∧ w' = w))
  have C2 := Lib.hid (fun w => (by rw [← hc2, ← cmp3_is]; exact Tryd.cmp_Compare_int z z' w : Calls Tryd.prog 37 #[.int .i64 z, .int .i64 z'] w fun e w' => e = .returned (.int .i64 c2) ∧ w' = w))
  clear hQ XB YB b1 b2 hw1 hw2 hc1 hc2 hs1
  go_enter Tryd.func23, Tryd.ntmps23
  go_upto_region 1 with fail
  rw [HW1.out, HW2.out]
  go_still_tail 10, (by kernel_rfl)
  still_call (C1.out _)
  repeat still_step
  still_call (C2.out _)
  repeat still_step
  try refine wpStill_nil ?_
  change wpList _ _ _ _ _ w2.drew
  have B3 : Hid (Below w.heap.size w w2.drew) := Lib.hid B2.out.drew
  generalize w2.drew = w3 at *
  have o := or_two c1 c2 (w3.alloc (.cells #[.int .i64 c1, .int .i64 c2] 3)) (B := w3.heap.size) (World.cell?_alloc_new ..) (World.cell?_alloc_new ..)
  obtain ⟨c, hc⟩ : ∃ c, (if c1 ≠ 0 then c1 else c2) = c := ⟨_, rfl⟩
  rw [hc] at o F
  have O := Lib.hid o
  have B4 : Hid (Below w.heap.size w (w3.alloc (.cells #[.int .i64 c1, .int .i64 c2] 3))) := Lib.hid (B3.out.alloc B3.out.size _)
  clear o hc x0 x1 x2 y0 y1 y2 hsx hsy B2 HW1 HW2 C1 C2 B3
  go_wp2_with (go_at_call 35; refine O.out.mono ?_)
  intro e w5 h5
  obtain ⟨rfl, b5⟩ := h5
  have B5 := Lib.hid (below_step B4.out b5)
  clear b5
  go_wp2_with fail
  exact F.out _ B5.out
end Go.Proofs.YtbnnmakmgleikaaDoor
