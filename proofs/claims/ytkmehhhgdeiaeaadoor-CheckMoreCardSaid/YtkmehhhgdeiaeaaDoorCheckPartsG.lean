/-
  What the landed check answers: the places of the parts of an expression.
-/
import Derived.Test.YtkmehhhgdeiaeaaDoorCheckRowsG
import Derived.Test.YtkmehhhgdeiaeaaDoorCheckKindByG
namespace Go.Proofs.YtkmehhhgdeiaeaaDoor
open Go.RowKit

/-- A slice of places, in a block from lo on, or none. -/
def PtI (w : World) (lo : Nat) (P : Option Addr) (l : List Int) : Prop := l = [] ∨ ∃ b, P = some ⟨b, 0, none⟩ ∧ lo ≤ b ∧ ∀ j x, l[j]? = some x → w.cell? ⟨b, j, none⟩ = some (.int .i64 x)
theorem ptI_new (w : World) {lo : Nat} (hl : lo ≤ w.heap.size) (t : TypeId) (l : List Int) : PtI (w.alloc (.cells (l.map fun z => Value.int .i64 z).toArray t)) lo (some ⟨w.heap.size, 0, none⟩) l :=
  .inr ⟨_, rfl, hl, fun j x h => (Box.new w t (l.map fun z => Value.int .i64 z)).c j (by simp [h])⟩
set_option maxHeartbeats 3200000 in
set_option maxRecDepth 100000 in
theorem kparts_any (x : PCheck.Xp) (w : World) : Calls Tryd.prog 26 #[.agg (xpC x).toArray] w fun e w' => ∃ P c, e = .returned (.slice P (PCheck.parts x).length c) ∧ PtI w' w.heap.size P (PCheck.parts x) ∧ Below w.heap.size w w' := by
  obtain ⟨op, nm, vl, ya, yb, yc⟩ := x
  obtain ⟨w1, hw1, XB, b1⟩ : ∃ w1, w.alloc (.cells #[.string ⟨op.toArray⟩, .string ⟨nm.toArray⟩, .int .i64 vl, .int .i64 ya, .int .i64 yb, .int .i64 yc] 45) = w1 ∧ Box w1 w.heap.size [.string ⟨op.toArray⟩, .string ⟨nm.toArray⟩, .int .i64 vl, .int .i64 ya, .int .i64 yb, .int .i64 yc] ∧ Below w.heap.size w w1 := ⟨_, rfl, Box.new _ _ [.string ⟨op.toArray⟩, .string ⟨nm.toArray⟩, .int .i64 vl, .int .i64 ya, .int .i64 yb, .int .i64 yc], (Below.refl _ _).alloc (Nat.le_refl _) _⟩
  have HW1 := Lib.hid hw1; have B1 := Lib.hid b1
  obtain ⟨x0, x1, x2, x3, x4, x5⟩ := box6 XB
  have hsx := XB.1
  have hls := Lib.hid b1.size
  clear hw1 b1 XB
  have AL := Lib.hid (fun o => below_step B1.out ((Below.refl w1.heap.size w1).alloc (Nat.le_refl _) o))
  unfold xpC
  by_cases h6 : op ∈ [PCheck.wholeS, PCheck.amountS, PCheck.rateS, PCheck.nameS, PCheck.negS, PCheck.ifS]
  · simp only [PCheck.wholeS, PCheck.amountS, PCheck.rateS, PCheck.nameS, PCheck.negS, PCheck.ifS, List.mem_cons, List.not_mem_nil, or_false] at h6
    rcases h6 with rfl | rfl | rfl | rfl | rfl | rfl
    iterate 4
      · go_enter Tryd.func26, Tryd.ntmps26
        go_upto_region 1 with fail
        rw [HW1.out]
        go_wp2_with fail
        go_ret
        exact ⟨none, 0, rfl, .inl rfl, B1.out⟩
    · go_enter Tryd.func26, Tryd.ntmps26
      go_upto_region 1 with fail
      rw [HW1.out]
      go_wp2_with fail
      go_ret
      exact ⟨_, _, rfl, ptI_new w1 hls.out _ [ya], AL.out _⟩
    · go_enter Tryd.func26, Tryd.ntmps26
      go_upto_region 1 with fail
      rw [HW1.out]
      go_wp2_with fail
      go_ret
      exact ⟨_, _, rfl, ptI_new w1 hls.out _ [ya, yb, yc], AL.out _⟩
  · have e1 := kb_ne h6 (s := [119, 104, 111, 108, 101]) (by decide); have e2 := kb_ne h6 (s := [97, 109, 111, 117, 110, 116]) (by decide); have e3 := kb_ne h6 (s := [114, 97, 116, 101]) (by decide); have e4 := kb_ne h6 (s := [110, 97, 109, 101]) (by decide)
    have e5 := kb_ne h6 (s := [110, 101, 103]) (by decide); have e6 := kb_ne h6 (s := [105, 102]) (by decide)
    have HP : Hid (PCheck.parts ⟨op, nm, vl, ya, yb, yc⟩ = [ya, yb]) := Lib.hid (by
      simp only [List.mem_cons, List.not_mem_nil, or_false, not_or] at h6
      unfold PCheck.parts
      rw [if_neg (by rintro (h | h | h | h); exact h6.1 h; exact h6.2.1 h; exact h6.2.2.1 h; exact h6.2.2.2.1 h), if_neg h6.2.2.2.2.1, if_neg h6.2.2.2.2.2])
    clear h6
    go_enter Tryd.func26, Tryd.ntmps26
    go_upto_region 1 with fail
    rw [HW1.out]
    go_wp2_with fail
    go_ret
    rw [HP.out]
    exact ⟨_, _, rfl, ptI_new w1 hls.out _ [ya, yb], AL.out _⟩
end Go.Proofs.YtkmehhhgdeiaeaaDoor
