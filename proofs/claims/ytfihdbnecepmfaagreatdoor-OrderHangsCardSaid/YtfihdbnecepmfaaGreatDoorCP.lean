/-
  What the landed check answers of kinds alone: common, oneOf, product, flag.
  What the landed check answers: the kind of an operation, by the kinds of its parts; the places of the parts.
  What the landed check answers: the places of the parts of an expression.
  What the document's answer of layer 10 says: how many parts an operation has, and which.
-/
import Derived.Test.YtfihdbnecepmfaaGreatDoorCheckRowsG
import Derived.Test.YtfihdbnecepmfaaGreatDoorShelf
import Derived.Test.YtfihdbnecepmfaaGreatDoorMC
import Derived.Handy
import Derived.Test.YtfihdbnecepmfaaGreatDoorBK
import Derived.Deep.DeepCutAuto

namespace Go.Proofs.YtfihdbnecepmfaaGreatDoor
open Go.RowKit

end Go.Proofs.YtfihdbnecepmfaaGreatDoor

namespace Go.Proofs.YtfihdbnecepmfaaGreatDoor
open Go.RowKit

theorem kb_ne {op : List UInt8} {l : List (List UInt8)} (h : op ∉ l) {s : List UInt8} (hs : s ∈ l) : (op == s) = false := by rw [beq_eq_false_iff_ne]; rintro rfl; exact h hs
end Go.Proofs.YtfihdbnecepmfaaGreatDoor

namespace Go.Proofs.YtfihdbnecepmfaaGreatDoor
open Go.RowKit

/-- A slice of places, in a block from lo on, or none. -/
def PtI (w : World) (lo : Nat) (P : Option Addr) (l : List Int) : Prop := l = [] ∨ ∃ b, P = some ⟨b, 0, none⟩ ∧ lo ≤ b ∧ ∀ j x, l[j]? = some x → w.cell? ⟨b, j, none⟩ = some (.int .i64 x)
end Go.Proofs.YtfihdbnecepmfaaGreatDoor

namespace Go.Proofs.YtfihdbnecepmfaaGreatDoor
open Go.RowKit
open PCheck (Xp parts)

/-- How many parts an operation has. -/
def manyOf (op : List UInt8) : Nat := if op = PCheck.wholeS ∨ op = PCheck.amountS ∨ op = PCheck.rateS ∨ op = PCheck.nameS then 0 else if op = PCheck.negS then 1 else if op = PCheck.ifS then 3 else 2
theorem parts_many (x : Xp) : (parts x).length = manyOf x.op := by
  unfold PCheck.parts manyOf
  (repeat' split) <;> rfl
def partAt (x : Xp) (n : Nat) : Int := if n = 0 then x.a else if n = 1 then x.b else x.c
theorem parts_at {x : Xp} {q : Nat} (h : q < (parts x).length) : (parts x)[q]? = some (partAt x q) := by
  unfold PCheck.parts at h ⊢
  by_cases h1 : x.op = PCheck.wholeS ∨ x.op = PCheck.amountS ∨ x.op = PCheck.rateS ∨ x.op = PCheck.nameS
  · rw [if_pos h1] at h; cases h
  · rw [if_neg h1] at h ⊢
    by_cases h2 : x.op = PCheck.negS
    · rw [if_pos h2] at h ⊢
      have h : q < 1 := h
      obtain rfl : q = 0 := by omega
      rfl
    · rw [if_neg h2] at h ⊢
      by_cases h3 : x.op = PCheck.ifS
      · rw [if_pos h3] at h ⊢
        have h : q < 3 := h
        rcases (by omega : q = 0 ∨ q = 1 ∨ q = 2) with rfl | rfl | rfl <;> rfl
      · rw [if_neg h3] at h ⊢
        have h : q < 2 := h
        rcases (by omega : q = 0 ∨ q = 1) with rfl | rfl <;> rfl
set_option maxHeartbeats 3200000 in
set_option maxRecDepth 100000 in
theorem rmany_any (op : List UInt8) (w : World) : Calls Tryz.prog 84 #[.string ⟨op.toArray⟩] w fun e w' => e = .returned (.int .i64 (manyOf op : Nat)) ∧ w = w' := by
  by_cases h6 : op ∈ [PCheck.wholeS, PCheck.amountS, PCheck.rateS, PCheck.nameS, PCheck.negS, PCheck.ifS]
  · simp only [PCheck.wholeS, PCheck.amountS, PCheck.rateS, PCheck.nameS, PCheck.negS, PCheck.ifS, List.mem_cons, List.not_mem_nil, or_false] at h6
    rcases h6 with rfl | rfl | rfl | rfl | rfl | rfl
    iterate 6
      · go_enter Tryz.func84, Tryz.ntmps84
        go_wp2_with fail
        go_ret
        exact ⟨rfl, rfl⟩
  · have e1 := kb_ne h6 (s := [119, 104, 111, 108, 101]) (by decide); have e2 := kb_ne h6 (s := [97, 109, 111, 117, 110, 116]) (by decide); have e3 := kb_ne h6 (s := [114, 97, 116, 101]) (by decide); have e4 := kb_ne h6 (s := [110, 97, 109, 101]) (by decide)
    have e5 := kb_ne h6 (s := [110, 101, 103]) (by decide); have e6 := kb_ne h6 (s := [105, 102]) (by decide)
    have HP : Hid (manyOf op = 2) := Lib.hid (by
      simp only [List.mem_cons, List.not_mem_nil, or_false, not_or] at h6
      unfold manyOf
      rw [if_neg (by rintro (h | h | h | h); exact h6.1 h; exact h6.2.1 h; exact h6.2.2.1 h; exact h6.2.2.2.1 h), if_neg h6.2.2.2.2.1, if_neg h6.2.2.2.2.2])
    clear h6
    go_enter Tryz.func84, Tryz.ntmps84
    go_wp2_with fail
    go_ret
    rw [HP.out]
    exact ⟨rfl, rfl⟩
set_option maxHeartbeats 3200000 in
set_option maxRecDepth 100000 in
theorem rpart_any (x : Xp) (n : Nat) (w : World) : Calls Tryz.prog 85 #[.agg (xpC x).toArray, .int .i64 (n : Nat)] w fun e w' => e = .returned (.int .i64 (partAt x n)) ∧ Below w.heap.size w w' := by
  obtain ⟨op, nm, vl, ya, yb, yc⟩ := x
  obtain ⟨w1, hw1, XB, b1⟩ : ∃ w1, w.alloc (.cells #[.string ⟨op.toArray⟩, .string ⟨nm.toArray⟩, .int .i64 vl, .int .i64 ya, .int .i64 yb, .int .i64 yc] 103) = w1 ∧ Box w1 w.heap.size [.string ⟨op.toArray⟩, .string ⟨nm.toArray⟩, .int .i64 vl, .int .i64 ya, .int .i64 yb, .int .i64 yc] ∧ Below w.heap.size w w1 := ⟨_, rfl, Box.new _ _ [.string ⟨op.toArray⟩, .string ⟨nm.toArray⟩, .int .i64 vl, .int .i64 ya, .int .i64 yb, .int .i64 yc], (Below.refl _ _).alloc (Nat.le_refl _) _⟩
  have HW1 := Lib.hid hw1; have B1 := Lib.hid b1
  obtain ⟨x0, x1, x2, x3, x4, x5⟩ := box6 XB
  have hsx := XB.1
  clear hw1 b1 XB
  unfold xpC
  by_cases h0 : n = 0
  · subst h0
    go_enter Tryz.func85, Tryz.ntmps85
    go_upto_region 1 with fail
    (try rw [HW1.out])
    go_wp2_with fail
    go_ret
    exact ⟨rfl, B1.out⟩
  by_cases h1 : n = 1
  · subst h1
    go_enter Tryz.func85, Tryz.ntmps85
    go_upto_region 1 with fail
    (try rw [HW1.out])
    go_wp2_with fail
    go_ret
    exact ⟨rfl, B1.out⟩
  · have e0 : ((n : Int) == 0) = false := by rw [beq_eq_false_iff_ne]; omega
    have e1 : ((n : Int) == 1) = false := by rw [beq_eq_false_iff_ne]; omega
    have HP : Hid (partAt ⟨op, nm, vl, ya, yb, yc⟩ n = yc) := Lib.hid (by unfold partAt; rw [if_neg h0, if_neg h1])
    clear h0 h1
    go_enter Tryz.func85, Tryz.ntmps85
    go_upto_region 1 with fail
    (try rw [HW1.out])
    go_wp2_with fail
    go_ret
    rw [HP.out]
    exact ⟨rfl, B1.out⟩
end Go.Proofs.YtfihdbnecepmfaaGreatDoor
