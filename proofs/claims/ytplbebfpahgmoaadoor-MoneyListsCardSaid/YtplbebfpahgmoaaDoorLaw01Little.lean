/-
  Rows of ints that a call has made: how they are read; what the law's own 'little' makes; sums of small numbers.
-/
import Derived.Test.YtplbebfpahgmoaaDoorMoneySum
import Derived.OwnWalk
import Derived.Laws.AppendOwnNone
import Derived.Laws.OwnMore
namespace Go.Proofs.YtplbebfpahgmoaaDoor
open Go.RowKit

/-- The ints as cells. -/
def cellsOfInts (l : List Int) : List Value := l.map (Value.int .i64)
theorem cellsOfInts_len (l : List Int) : (cellsOfInts l).length = l.length := by simp [cellsOfInts]
theorem cellsOfInts_get (l : List Int) (i : Nat) (h : i < l.length) : (cellsOfInts l)[i]? = some (.int .i64 (l.getD i 0)) := by simp [cellsOfInts, List.getD, h]

/-- A number cut to less than 2^53, either way. -/
def cut53 (n : Int) : Int := n.tmod 9007199254740992
def Small (l : List Int) : Prop := ∀ x ∈ l, -9007199254740992 < x ∧ x < 9007199254740992
theorem cut53_small (n : Int) : -9007199254740992 < cut53 n ∧ cut53 n < 9007199254740992 := by
  unfold cut53
  have h1 := Int.tmod_lt_of_pos n (b := 9007199254740992) (by omega)
  have h2 := Int.lt_tmod_of_pos n (b := 9007199254740992) (by omega)
  omega
theorem small_map (l : List Int) : Small (l.map cut53) := by
  intro x hx
  obtain ⟨y, _, rfl⟩ := List.mem_map.1 hx
  exact cut53_small y
theorem Small.at_ {l : List Int} (h : Small l) (i : Nat) (hi : i < l.length) : -9223372036854775808 ≤ l.getD i 0 ∧ l.getD i 0 ≤ 9223372036854775807 := by
  have : l.getD i 0 ∈ l := by simp [List.getD, hi]
  have := h _ this
  omega

/-- A row that the call has made reads as its list. -/
theorem sl_of_own {w : World} {base n : Nat} {v : Value} {l : List Int} (h : w.ownsRow base 3 1 v n (cellsOfInts l)) (hs : Small l) (hn : n ≤ 9223372036854775807) :
    ∃ a cap, v = .slice a n cap ∧ (a = none → cap = 0) ∧ Sl w a n l := by
  have hl : l.length = n := by have := h.1; rw [cellsOfInts_len] at this; omega
  rcases h.2 with ⟨rfl, rfl⟩ | ⟨g, cap, cur, rfl, _⟩
  · exact ⟨none, 0, rfl, fun _ => rfl, hl, fun i hi => by omega, by omega, .inl rfl⟩
  · refine ⟨_, cap, rfl, (fun e => by cases e), hl, fun i hi => hs.at_ i (by omega), hn, .inr ⟨g, 0, rfl, fun i hi => ?_⟩⟩
    have hc := h.cells (g := g) rfl i _ (cellsOfInts_get l i (by omega))
    by_cases h0 : i = 0
    · subst h0; simpa [Addr.add] using hc
    · simpa [Addr.add, h0] using hc

theorem infoInt : (Tryd.prog.info? 3).map (fun i => (i.zero, i.size, i.bytes)) = some (some (.int .i64 0), 1, 8) := by kernel_rfl

/-- 'append(s, x...)' of ints, s a row of the call's own, x a slice that reads as a list. -/
theorem append_sl {w : World} {ops : Array Oper} {rest : List Oper} {o : Oper} {a : Act} {Q : Exit → Act → World → Prop} (hgd : o.guard = none) (s x : Operand)
    (ho : o.op = .call { callee := .builtin .append, args := #[s, x], argTypes := #[22, 22] })
    (base : Nat) (v : Value) (n : Nat) (k : List Int) (hs : a.eval s = v) (hown : w.ownsRow base 3 1 v n (cellsOfInts k))
    (A : Option Addr) (m c : Nat) (l : List Int) (hx : a.eval x = .slice A m c) (hc : A = none → c = 0) (hsl : Sl w A m l) (hnm : n + m ≤ 1000) (hbase : base ≤ w.heap.size)
    (h : ∀ v' w', w'.ownsRow base 3 1 v' (n + m) (cellsOfInts (k ++ l)) → w.grownBy w' v.ownBlock → wpList Tryd.prog ops Q rest (a.put o.dst v') w') : wpList Tryd.prog ops Q (o :: rest) a w := by
  obtain ⟨i0, hi, hz0, hz1, hz2⟩ := info_parts infoInt
  obtain ⟨h1, h2, h3, h4⟩ := hsl
  cases A with
  | none =>
    obtain rfl := hc rfl
    have hm : m = 0 := by
      rcases h4 with h4 | ⟨b, off, e, _⟩
      · exact h4
      · cases e
    subst hm
    obtain rfl : l = [] := List.eq_nil_of_length_eq_zero h1
    refine wpList_append_own_none hgd s x 22 ho base 3 i0 1 Tryd.underlying22 hi v n _ hs hown hx (h v w ?_ (World.grownBy.refl w _))
    rw [List.append_nil]; exact hown
  | some ad =>
    refine wpList_append_own w hgd s x 22 ho base 3 i0 (.int .i64 0) 1 8 Tryd.underlying22 hi hz0 hz1 hz2 rfl (by decide) v n _ hs hown ad m c (cellsOfInts l) hx (by rw [cellsOfInts_len, h1]; omega) (fun j u hj => ?_) (fun u hu => ?_) (by unfold maxLen; omega) (by omega) hbase (fun v' w' ho' hg _ => h v' w' ?_ hg)
    · have hjl : j < l.length := by
        have := (List.getElem?_eq_some_iff.1 hj).1
        rwa [cellsOfInts_len] at this
      rw [cellsOfInts_get l j hjl] at hj
      rcases h4 with h4 | ⟨b, off, e, hcell⟩
      · omega
      · cases e
        rw [← hj, ← hcell j (by omega)]
        by_cases h0 : j = 0
        · subst h0; rfl
        · simp [Addr.add, h0]
    · obtain ⟨y, _, rfl⟩ := List.mem_map.1 hu
      rfl
    · rw [show cellsOfInts (k ++ l) = cellsOfInts k ++ cellsOfInts l by simp [cellsOfInts]]; exact ho'

set_option maxHeartbeats 1600000 in
set_option maxRecDepth 100000 in
theorem little_any (a : Option Addr) (len cap : Nat) (l : List Int) (w : World) (h : Sl w a len l) (hlen : len ≤ 100) :
    Calls Tryd.prog 22 #[.slice a len cap] w fun e w' => ∃ v, e = .returned v ∧ w'.ownsRow w.heap.size 3 1 v len (cellsOfInts (l.map cut53)) ∧ Below w.heap.size w w' := by
  obtain ⟨i0, hi, hz0, hz1, hz2⟩ := info_parts infoInt
  have hsl := Lib.hid h
  obtain ⟨hl1, hl2, hl3, hl4⟩ := h
  have L1 := Lib.hid hl1; clear hl1
  have L2 := Lib.hid hl2; clear hl2
  rcases hl4 with hl4 | ⟨blk, off, rfl, hcell⟩
  · subst hl4
    obtain rfl : l = [] := List.eq_nil_of_length_eq_zero L1.out
    go_enter Tryd.func22, Tryd.ntmps22
    go_wp2_with fail
    go_loop [3, 8] (fun s i => s = .slice none 0 0 ∧ i = .int .i64 0) (fun _ _ => 0)
    case atStart => exact ⟨rfl, rfl⟩
    case round =>
      obtain ⟨rfl, rfl⟩ := hrel
      go_wp2
      go_ret
      exact ⟨_, rfl, World.ownsRow_nil _ _ _ _, Below.refl _ _⟩
  · have HC := Lib.hid hcell; clear hcell
    go_enter Tryd.func22, Tryd.ntmps22
    go_wp2_with fail
    go_loopw [3, 8] (fun v i wr => ∃ j : Nat, j ≤ len ∧ i = .int .i64 j ∧ wr.ownsRow w.heap.size 3 1 v j (cellsOfInts ((l.map cut53).take j)) ∧ Below w.heap.size w wr) (fun _ i _ => len - (intOf i).toNat)
    case atStart => exact ⟨0, Nat.zero_le _, rfl, World.ownsRow_nil _ _ _ _, Below.refl _ _⟩
    case round =>
      obtain ⟨j, hj, rfl, hown, hb⟩ := hrel
      have HO := Lib.hid hown; clear hown
      by_cases hlt : j < len
      · have hcj := ((hb.cell (World.block_lt_of_cell? w _ (HC.out j hlt))).trans (HC.out j hlt))
        obtain ⟨hb1, hb2⟩ := L2.out j hlt
        have HT : Hid (cellsOfInts ((l.map cut53).take (j + 1)) = cellsOfInts ((l.map cut53).take j) ++ [.int .i64 (cut53 (l.getD j 0))]) := Lib.hid (by
          rw [← List.map_take, take_snocI l j (by rw [L1.out]; exact hlt), ← List.map_take]; simp [cellsOfInts])
        generalize hk : l.getD j 0 = k at *
        have HK := Lib.hid hk; clear hk
        obtain ⟨q, hq⟩ : ∃ q, k.tmod 9007199254740992 = q := ⟨_, rfl⟩
        have HQ : Hid (cut53 k = q) := hq
        go_wp2_with (at_builtin; refine wpList_append_own _ rfl _ _ 22 rfl w.heap.size 3 i0 (.int .i64 0) 1 8 Tryd.underlying22 hi hz0 hz1 hz2 rfl (by decide) _ _ _ rfl (HO.out.alloc _) ⟨wr.heap.size, 0, none⟩ 1 1 [.int .i64 q] rfl rfl ?c1 ?c2 ?c3 ?c4 ?c5 ?_)
        case c1 =>
          intro j u hj
          match j, hj with
          | 0, hj => simp at hj; subst hj; simp [Addr.add]
        case c2 => intro u hu; simp at hu; subst hu; rfl
        case c3 => unfold maxLen; omega
        case c4 => omega
        case c5 => have := hb.size; simp; omega
        intro v' w1 hown' hgrow _
        have hb' : Below w.heap.size w w1 := (hb.alloc (by have := hb.size; omega) _).grown hgrow (by have := hb.size; simp; omega) (fun k hk => (HO.out.lt k hk).1)
        have HN : Hid (w1.ownsRow w.heap.size 3 1 v' (j + 1) (cellsOfInts ((l.map cut53).take (j + 1)))) := Lib.hid (by rw [HT.out, HQ.out]; exact hown')
        clear hown' hgrow
        go_wp2
        go_roundw
        case rel => exact ⟨j + 1, by omega, by go_num, HN.out, hb'⟩
        case measure => simp [intOf]; omega
      · obtain rfl : j = len := by omega
        have HR : Hid ((l.map cut53).take j = l.map cut53) := Lib.hid (List.take_of_length_le (by simp; exact Nat.le_of_eq L1.out))
        go_wp2
        go_ret
        exact ⟨_, rfl, by have := HO.out; rwa [HR.out] at this, hb⟩

theorem sum_small : ∀ (l : List Int) (s : Int) (k : Nat), Small l → l.length ≤ k → -9223372036854775807 ≤ s - k * 9007199254740992 → s + k * 9007199254740992 ≤ 9223372036854775807 → sumFrom s l = some (s + l.sum)
  | [], s, _, _, _, _, _ => by simp [sumFrom]
  | x :: r, s, 0, _, hl, _, _ => by simp at hl
  | x :: r, s, k + 1, hs, hl, h1, h2 => by
    have hx := hs x (by simp)
    have hl' : r.length ≤ k := by simpa using hl
    have e : ((k + 1 : Nat) : Int) = (k : Int) + 1 := by omega
    rw [e] at h1 h2
    simp only [sumFrom]
    rw [if_pos (by unfold Adds; omega), sum_small r (s + x) k (fun y hy => hs y (by simp [hy])) hl' (by omega) (by omega)]
    congr 1
    simp; omega
theorem sum_bound : ∀ (l : List Int) (k : Nat), Small l → l.length ≤ k → -((k : Int) * 9007199254740992) ≤ l.sum ∧ l.sum ≤ (k : Int) * 9007199254740992
  | [], k, _, _ => by simp; omega
  | x :: r, 0, _, hl => by simp at hl
  | x :: r, k + 1, hs, hl => by
    have hx := hs x (by simp)
    have ih := sum_bound r k (fun y hy => hs y (by simp [hy])) (by simpa using hl)
    have e : ((k + 1 : Nat) : Int) = (k : Int) + 1 := by omega
    rw [e]
    simp
    omega
end Go.Proofs.YtplbebfpahgmoaaDoor
