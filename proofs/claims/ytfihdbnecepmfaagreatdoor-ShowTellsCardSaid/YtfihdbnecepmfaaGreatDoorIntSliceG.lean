/-
  Slices of ints that read as lists; rows of ints that a call has made; append of such slices.
-/
import Derived.Test.YtfihdbnecepmfaaGreatDoorBase
import Derived.WalkKit
import Derived.Lib.Hide
import Derived.OwnWalk
import Derived.Laws.AppendOwnNone
import Derived.Laws.OwnMore

namespace Go.Proofs.YtfihdbnecepmfaaGreatDoor
open Go.RowKit

/-- The ints as cells. -/
def cellsOfInts (l : List Int) : List Value := l.map (Value.int .i64)
theorem cellsOfInts_len (l : List Int) : (cellsOfInts l).length = l.length := by simp [cellsOfInts]
theorem cellsOfInts_get (l : List Int) (i : Nat) (h : i < l.length) : (cellsOfInts l)[i]? = some (.int .i64 (l.getD i 0)) := by simp [cellsOfInts, List.getD, h]
theorem cellsOfInts_app (a b : List Int) : cellsOfInts (a ++ b) = cellsOfInts a ++ cellsOfInts b := by simp [cellsOfInts]
/-- Every number is an int. -/
def In64 (l : List Int) : Prop := ∀ i, i < l.length → -9223372036854775808 ≤ l.getD i 0 ∧ l.getD i 0 ≤ 9223372036854775807

/-- A row that the call has made reads as its list. -/
theorem sl_of_own {w : World} {base n : Nat} {v : Value} {l : List Int} (h : w.ownsRow base 3 1 v n (cellsOfInts l)) (hs : In64 l) (hn : n ≤ 9223372036854775807) :
    ∃ a cap, v = .slice a n cap ∧ (a = none → cap = 0) ∧ n ≤ cap ∧ cap ≤ 9223372036854775807 ∧ Sl w a n l := by
  have hl : l.length = n := by have := h.1; rw [cellsOfInts_len] at this; omega
  rcases h.2 with ⟨rfl, rfl⟩ | ⟨g, cap, cur, rfl, _, _, h1, h2, _⟩
  · exact ⟨none, 0, rfl, fun _ => rfl, Nat.le_refl _, by omega, hl, fun i hi => by omega, by omega, .inl rfl⟩
  · unfold maxLen at h2
    refine ⟨_, cap, rfl, (fun e => by cases e), h1, by omega, hl, fun i hi => hs i (by omega), hn, .inr ⟨g, 0, rfl, fun i hi => ?_⟩⟩
    have hc := h.cells (g := g) rfl i _ (cellsOfInts_get l i (by omega))
    by_cases h0 : i = 0
    · subst h0; simpa [Addr.add] using hc
    · simpa [Addr.add, h0] using hc

theorem infoInt : (Tryz.prog.info? 3).map (fun i => (i.zero, i.size, i.bytes)) = some (some (.int .i64 0), 1, 8) := by kernel_rfl

/-- 'append(s, x...)' of ints, s a row of the call's own, x a slice that reads as a list. -/
theorem append_sl {w : World} {ops : Array Oper} {rest : List Oper} {o : Oper} {a : Act} {Q : Exit → Act → World → Prop} (hgd : o.guard = none) (s x : Operand)
    (ho : o.op = .call { callee := .builtin .append, args := #[s, x], argTypes := #[43, 43] })
    (base : Nat) (v : Value) (n : Nat) (k : List Int) (hs : a.eval s = v) (hown : w.ownsRow base 3 1 v n (cellsOfInts k))
    (A : Option Addr) (m c : Nat) (l : List Int) (hx : a.eval x = .slice A m c) (hc : A = none → c = 0) (hsl : Sl w A m l) (hnm : n + m ≤ 1000) (hbase : base ≤ w.heap.size)
    (h : ∀ v' w', w'.ownsRow base 3 1 v' (n + m) (cellsOfInts (k ++ l)) → w.grownBy w' v.ownBlock → wpList Tryz.prog ops Q rest (a.put o.dst v') w') : wpList Tryz.prog ops Q (o :: rest) a w := by
  obtain ⟨i0, hi, hz0, hz1, hz2⟩ := info_parts infoInt
  obtain ⟨h1, h2, h3, h4⟩ := hsl
  cases A with
  | none =>
    obtain rfl := hc rfl
    have hm : m = 0 := by
      rcases h4 with h4 | ⟨b, off, e, _⟩
      · exact h4
      · cases e
    subst hm
    obtain rfl : l = [] := List.eq_nil_of_length_eq_zero h1
    refine wpList_append_own_none hgd s x 43 ho base 3 i0 1 Tryz.underlying43 hi v n _ hs hown hx (h v w ?_ (World.grownBy.refl w _))
    rw [List.append_nil]; exact hown
  | some ad =>
    refine wpList_append_own w hgd s x 43 ho base 3 i0 (.int .i64 0) 1 8 Tryz.underlying43 hi hz0 hz1 hz2 rfl (by decide) v n _ hs hown ad m c (cellsOfInts l) hx (by rw [cellsOfInts_len, h1]; omega) (fun j u hj => ?_) (fun u hu => ?_) (by unfold maxLen; omega) (by omega) hbase (fun v' w' ho' hg _ => h v' w' ?_ hg)
    · have hjl : j < l.length := by
        have := (List.getElem?_eq_some_iff.1 hj).1
        rwa [cellsOfInts_len] at this
      rw [cellsOfInts_get l j hjl] at hj
      rcases h4 with h4 | ⟨b, off, e, hcell⟩
      · omega
      · cases e
        rw [← hj, ← hcell j (by omega)]
        by_cases h0 : j = 0
        · subst h0; rfl
        · simp [Addr.add, h0]
    · obtain ⟨y, _, rfl⟩ := List.mem_map.1 hu
      rfl
    · rw [cellsOfInts_app]; exact ho'

/-- 's = append(s, d)' of an int, s a row of the call's own: the one number lies in a block of its own. -/
theorem append_one {w : World} {ops : Array Oper} {rest : List Oper} {o : Oper} {a : Act} {Q : Exit → Act → World → Prop} (hgd : o.guard = none) (s x : Operand)
    (ho : o.op = .call { callee := .builtin .append, args := #[s, x], argTypes := #[43, 43] })
    (base : Nat) (v : Value) (n : Nat) (k : List Int) (d : Int) (hs : a.eval s = v) (hown : w.ownsRow base 3 1 v n (cellsOfInts k))
    (hx : a.eval x = .slice (some ⟨w.heap.size, 0, none⟩) 1 1) (hn : n + 1 ≤ 1000) (hbase : base ≤ w.heap.size)
    (h : ∀ v' w', w'.ownsRow base 3 1 v' (n + 1) (cellsOfInts (k ++ [d])) → Below base w w' → wpList Tryz.prog ops Q rest (a.put o.dst v') w') :
    wpList Tryz.prog ops Q (o :: rest) a (w.alloc (.cells #[.int .i64 d] 3)) := by
  obtain ⟨i0, hi, hz0, hz1, hz2⟩ := info_parts infoInt
  refine wpList_append_own _ hgd s x 43 ho base 3 i0 (.int .i64 0) 1 8 Tryz.underlying43 hi hz0 hz1 hz2 rfl (by decide) v n _ hs (hown.alloc _) ⟨w.heap.size, 0, none⟩ 1 1 [.int .i64 d] hx rfl ?_ (fun u hu => ?_) (by unfold maxLen; omega) (by omega) (by simp; omega) (fun v' w' ho' hg _ => h v' w' ?_ ?_)
  · intro j u hj
    match j, hj with
    | 0, hj => simp at hj; subst hj; simp [Addr.add]
  · simp at hu; subst hu; rfl
  · rw [cellsOfInts_app]; exact ho'
  · exact ((Below.refl _ _).alloc hbase _).grown hg (by simp; omega) (fun k hk => (hown.lt k hk).1)
end Go.Proofs.YtfihdbnecepmfaaGreatDoor
