/-
  Rows of pairs of ints of the call's own: they read as tables; append of one pair, and of a table.
-/
import Derived.Test.YtdbadgnoognnnaaPairKit
import Derived.Test.YtdbadgnoognnnaaRowsApart
import Derived.Deep.AppendLies
namespace Go.Proofs.Ytdbadgnoognnnaa
open Go.RowKit

/-- The first k pairs, as cells. -/
def cellsP (a r : Nat → Int) (k : Nat) : List Value := (List.range k).flatMap (fun i => [.int .i64 (a i), .int .i64 (r i)])
theorem cellsP_next (a r : Nat → Int) (k : Nat) : cellsP a r (k + 1) = cellsP a r k ++ [.int .i64 (a k), .int .i64 (r k)] := by simp [cellsP, List.range_succ]
theorem cellsP_len (a r : Nat → Int) (k : Nat) : (cellsP a r k).length = k * 2 := by
  induction k with
  | zero => rfl
  | succ k ih => rw [cellsP_next, List.length_append, ih]; simp; omega
theorem cellsP_get (a r : Nat → Int) {k i : Nat} (h : i < k) : (cellsP a r k)[i * 2]? = some (.int .i64 (a i)) ∧ (cellsP a r k)[i * 2 + 1]? = some (.int .i64 (r i)) := by
  induction k with
  | zero => omega
  | succ k ih =>
    rw [cellsP_next]
    have hl := cellsP_len a r k
    by_cases e : i = k
    · subst e
      rw [List.getElem?_append_right (by omega), List.getElem?_append_right (by omega), hl]
      simp
    · obtain ⟨h1, h2⟩ := ih (by omega)
      rw [List.getElem?_append_left (by omega), List.getElem?_append_left (by omega)]
      exact ⟨h1, h2⟩
theorem cellsP_congr {a r a' r' : Nat → Int} {k : Nat} (h : ∀ i, i < k → a i = a' i ∧ r i = r' i) : cellsP a r k = cellsP a' r' k := by
  induction k with
  | zero => rfl
  | succ k ih => rw [cellsP_next, cellsP_next, ih (fun i hi => h i (by omega)), (h k (by omega)).1, (h k (by omega)).2]

theorem slp_of_own {w : World} {base n : Nat} {v : Value} {a r : Nat → Int} (h : w.ownsRow base 34 2 v n (cellsP a r n)) (hb : ∀ i, i < n → (-9223372036854775808 ≤ a i ∧ a i ≤ 9223372036854775807) ∧ -9223372036854775808 ≤ r i ∧ r i ≤ 9223372036854775807) (hn : n ≤ 1000) :
    ∃ A cap, v = .slice A n cap ∧ (A = none → cap = 0) ∧ n ≤ cap ∧ SlP w A n a r := by
  rcases h.2 with ⟨rfl, rfl⟩ | ⟨g, cap, cur, rfl, _, _, h1, h2, _⟩
  · exact ⟨none, 0, rfl, fun _ => rfl, Nat.le_refl _, hb, by omega, .inl rfl⟩
  · refine ⟨_, cap, rfl, (fun e => by cases e), h1, hb, by omega, .inr ⟨g, 0, rfl, fun i hi => ?_⟩⟩
    obtain ⟨g1, g2⟩ := cellsP_get a r hi
    have c1 := h.cells (g := g) rfl (i * 2) _ g1
    have c2 := h.cells (g := g) rfl (i * 2 + 1) _ g2
    refine ⟨?_, ?_⟩
    · by_cases h0 : i * 2 = 0
      · obtain rfl : i = 0 := by omega
        simpa [Addr.add] using c1
      · simpa [Addr.add, h0] using c1
    · simpa [Addr.add] using c2

theorem infoRow : ∃ z, (Try.prog.info? 34).map (fun i => (i.zero, i.size, i.bytes)) = some (some z, 2, 16) := ⟨.agg #[.int .i64 0, .int .i64 0], by kernel_rfl⟩

/-- 's = append(s, row)', s a row of the call's own, the one row in a block of its own; other rows are as they were. -/
theorem append_pair {w : World} {ops : Array Oper} {rest : List Oper} {o : Oper} {a : Act} {Q : Exit → Act → World → Prop} (hgd : o.guard = none) (s x : Operand)
    (ho : o.op = .call { callee := .builtin .append, args := #[s, x], argTypes := #[22, 22] })
    (base : Nat) (v : Value) (n : Nat) (xs : List Value) (d e : Int) (hs : a.eval s = v) (hown : w.ownsRow base 34 2 v n xs)
    (hx : a.eval x = .slice (some ⟨w.heap.size, 0, none⟩) 1 1) (hn : n + 1 ≤ 1000) (hbase : base ≤ w.heap.size)
    (h : ∀ v' w', w'.ownsRow base 34 2 v' (n + 1) (xs ++ [.int .i64 d, .int .i64 e]) → Below base w w' →
      (∀ u m l, w.ownsRow base 34 2 u m l → Ap u v → w'.ownsRow base 34 2 u m l ∧ Ap u v') → (∀ p u, w.cell? p = some u → v.ownBlock ≠ some p.block → w'.cell? p = some u) → wpList Try.prog ops Q rest (a.put o.dst v') w') :
    wpList Try.prog ops Q (o :: rest) a (w.alloc (.cells #[.int .i64 d, .int .i64 e] 34)) := by
  obtain ⟨z, hz⟩ := infoRow
  obtain ⟨i0, hi, hz0, hz1, hz2⟩ := info_parts hz
  have hzs : z.cells.size = 2 := by
    have : (Try.prog.info? 34).map (fun i => (i.zero, i.size, i.bytes)) = some (some (.agg #[.int .i64 0, .int .i64 0]), 2, 16) := by kernel_rfl
    rw [this] at hz
    injection hz with hz
    injection hz with hz _
    injection hz with hz
    rw [← hz]; rfl
  refine wpList_append_own_at _ hgd s x 22 ho base 34 i0 z 2 16 Try.underlying22 hi hz0 hz1 hz2 hzs (by decide) v n _ hs (hown.alloc _) ⟨w.heap.size, 0, none⟩ 1 1 [.int .i64 d, .int .i64 e] hx rfl ?_ (fun u hu => ?_) (by unfold maxLen; omega) (by omega) (by simp; omega) (fun v' w' ho' hg _ hat => h v' w' ho' ?_ ?_ ?_)
  · intro j u hj
    match j, hj with
    | 0, hj => simp at hj; subst hj; simp [Addr.add]
    | 1, hj => simp at hj; subst hj; simp [Addr.add]
  · simp at hu; rcases hu with rfl | rfl <;> rfl
  · exact ((Below.refl _ _).alloc hbase _).grown hg (by simp; omega) (fun k hk => (hown.lt k hk).1)
  · intro u m l hu hap
    refine ⟨(hu.alloc _).kept hg ?_, ?_⟩
    · cases hb : u.ownBlock with
      | none => exact .inl rfl
      | some k => exact .inr (fun e => hap k hb e.symm)
    · intro k hk hv'
      have hlt := (hu.lt k hk).2
      rcases hat with e | e
      · rw [e] at hv'; exact hap k hk hv'
      · rw [e] at hv'
        injection hv' with hv'
        simp at hv'
        omega
  · intro p u hp hne
    exact hg.cell (((World.cell?_alloc_lt _ _ _ (World.block_lt_of_cell? w _ hp)).trans hp)) (fun e => hne e.symm)

/-- .. within a region that draws its order: the one row lies in whatever block. -/
theorem step_append_pair (w : World) {ops : Array Oper} {o : Oper} {a : Act} {K : Act → World → Prop} {Q : Exit → Act → World → Prop} {E : Prop} (hgd : o.guard = none) (s x : Operand)
    (ho : o.op = .call { callee := .builtin .append, args := #[s, x], argTypes := #[22, 22] })
    (base : Nat) (v : Value) (n : Nat) (xs : List Value) (d e : Int) (hs : a.eval s = v) (hown : w.ownsRow base 34 2 v n xs)
    (H1 : Nat) (hx : a.eval x = .slice (some ⟨H1, 0, none⟩) 1 1) (hc0 : w.cell? ⟨H1, 0, none⟩ = some (.int .i64 d)) (hc1 : w.cell? ⟨H1, 1, none⟩ = some (.int .i64 e)) (hn : n + 1 ≤ 1000) (hbase : base ≤ w.heap.size)
    (h : ∀ v' w', w'.ownsRow base 34 2 v' (n + 1) (xs ++ [.int .i64 d, .int .i64 e]) → Below base w w' →
      (∀ u m l, w.ownsRow base 34 2 u m l → Ap u v → w'.ownsRow base 34 2 u m l ∧ Ap u v') → (∀ p u, w.cell? p = some u → v.ownBlock ≠ some p.block → w'.cell? p = some u) → K (a.put o.dst v') w') :
    if Region.wanted o (yielded ops a.tmps) = true then Oper.wp Try.prog o a w K Q else E := by
  obtain ⟨z, hz⟩ := infoRow
  obtain ⟨i0, hi, hz0, hz1, hz2⟩ := info_parts hz
  have hzs : z.cells.size = 2 := by
    have : (Try.prog.info? 34).map (fun i => (i.zero, i.size, i.bytes)) = some (some (.agg #[.int .i64 0, .int .i64 0]), 2, 16) := by kernel_rfl
    rw [this] at hz
    injection hz with hz
    injection hz with hz _
    injection hz with hz
    rw [← hz]; rfl
  refine step_append_lies w hgd s x 22 ho base 34 i0 z 2 16 Try.underlying22 hi hz0 hz1 hz2 hzs (by decide) v n _ hs hown ⟨H1, 0, none⟩ 1 1 [.int .i64 d, .int .i64 e] hx rfl ?_ (fun u hu => ?_) (by omega) (by unfold maxLen; omega) (by omega) hbase w.heap.size rfl (fun g cap w' ho' hg hat _ => h _ w' ho' ?_ ?_ ?_)
  · intro j u hj
    match j, hj with
    | 0, hj => simp at hj; subst hj; simpa [Addr.add] using hc0
    | 1, hj => simp at hj; subst hj; simpa [Addr.add] using hc1
  · simp at hu; rcases hu with rfl | rfl <;> rfl
  · exact (Below.refl _ _).grown hg hbase (fun k hk => (hown.lt k hk).1)
  · intro u m l hu hap
    refine ⟨hu.kept hg ?_, ?_⟩
    · cases hb : u.ownBlock with
      | none => exact .inl rfl
      | some k => exact .inr (fun e => hap k hb e.symm)
    · intro k hk hv'
      have hlt := (hu.lt k hk).2
      have hgk : g = k := by simpa [Value.ownBlock] using hv'
      rcases hat with e | e
      · exact hap k hk (by rw [e, hgk])
      · omega
  · intro p u hp hne
    exact hg.cell hp (fun e => hne e.symm)

/-- 'append(s, t...)' of a table, s a row of the call's own. -/
theorem append_slp {w : World} {ops : Array Oper} {rest : List Oper} {o : Oper} {a : Act} {Q : Exit → Act → World → Prop} (hgd : o.guard = none) (s x : Operand)
    (ho : o.op = .call { callee := .builtin .append, args := #[s, x], argTypes := #[22, 22] })
    (base : Nat) (v : Value) (n : Nat) (xs : List Value) (hs : a.eval s = v) (hown : w.ownsRow base 34 2 v n xs)
    (A : Addr) (m c : Nat) (p r : Nat → Int) (hx : a.eval x = .slice (some A) m c) (hsl : SlP w (some A) m p r) (hm : 0 < m) (hnm : n + m ≤ 1000) (hbase : base ≤ w.heap.size)
    (h : ∀ v' w', w'.ownsRow base 34 2 v' (n + m) (xs ++ cellsP p r m) → w.grownBy w' v.ownBlock → wpList Try.prog ops Q rest (a.put o.dst v') w') : wpList Try.prog ops Q (o :: rest) a w := by
  obtain ⟨z, hz⟩ := infoRow
  obtain ⟨i0, hi, hz0, hz1, hz2⟩ := info_parts hz
  have hzs : z.cells.size = 2 := by
    have : (Try.prog.info? 34).map (fun i => (i.zero, i.size, i.bytes)) = some (some (.agg #[.int .i64 0, .int .i64 0]), 2, 16) := by kernel_rfl
    rw [this] at hz
    injection hz with hz
    injection hz with hz _
    injection hz with hz
    rw [← hz]; rfl
  obtain ⟨b, off, e, hc⟩ := hsl.2.2.resolve_left (by omega)
  cases e
  refine wpList_append_own w hgd s x 22 ho base 34 i0 z 2 16 Try.underlying22 hi hz0 hz1 hz2 hzs (by decide) v n _ hs hown ⟨b, off, none⟩ m c (cellsP p r m) hx (cellsP_len _ _ _) (fun j u hj => ?_) (fun u hu => ?_) (by unfold maxLen; omega) (by omega) hbase (fun v' w' ho' hg _ => h v' w' ho' hg)
  · have hjl : j < m * 2 := by
      have := (List.getElem?_eq_some_iff.1 hj).1
      rwa [cellsP_len] at this
    have hadd : (⟨b, off, none⟩ : Addr).add j = ⟨b, off + j, none⟩ := by unfold Addr.add; split <;> simp_all
    rw [hadd]
    obtain ⟨g1, g2⟩ := cellsP_get p r (show j / 2 < m by omega)
    obtain ⟨c1, c2⟩ := hc (j / 2) (by omega)
    by_cases e : j % 2 = 0
    · rw [show j / 2 * 2 = j by omega] at g1 c1
      rw [hj] at g1; rw [c1, ← g1]
    · rw [show j / 2 * 2 + 1 = j by omega] at g2
      rw [show off + j / 2 * 2 + 1 = off + j by omega] at c2
      rw [hj] at g2; rw [c2, ← g2]
  · unfold cellsP at hu
    obtain ⟨i, _, hi⟩ := List.mem_flatMap.1 hu
    simp at hi
    rcases hi with rfl | rfl <;> rfl

/-- .. within a region that draws its order. -/
theorem step_append_slp (w : World) {ops : Array Oper} {o : Oper} {a : Act} {K : Act → World → Prop} {Q : Exit → Act → World → Prop} {E : Prop} (hgd : o.guard = none) (s x : Operand)
    (ho : o.op = .call { callee := .builtin .append, args := #[s, x], argTypes := #[22, 22] })
    (base : Nat) (v : Value) (n : Nat) (xs : List Value) (hs : a.eval s = v) (hown : w.ownsRow base 34 2 v n xs)
    (b off m c : Nat) (p r : Nat → Int) (hx : a.eval x = .slice (some ⟨b, off, none⟩) m c) (hc : ∀ i, i < m → w.cell? ⟨b, off + i * 2, none⟩ = some (.int .i64 (p i)) ∧ w.cell? ⟨b, off + i * 2 + 1, none⟩ = some (.int .i64 (r i))) (hm : 0 < m) (hnm : n + m ≤ 1000) (hbase : base ≤ w.heap.size)
    (h : ∀ v' w', w'.ownsRow base 34 2 v' (n + m) (xs ++ cellsP p r m) → Below base w w' → (∀ p u, w.cell? p = some u → v.ownBlock ≠ some p.block → w'.cell? p = some u) → K (a.put o.dst v') w') :
    if Region.wanted o (yielded ops a.tmps) = true then Oper.wp Try.prog o a w K Q else E := by
  obtain ⟨z, hz⟩ := infoRow
  obtain ⟨i0, hi, hz0, hz1, hz2⟩ := info_parts hz
  have hzs : z.cells.size = 2 := by
    have : (Try.prog.info? 34).map (fun i => (i.zero, i.size, i.bytes)) = some (some (.agg #[.int .i64 0, .int .i64 0]), 2, 16) := by kernel_rfl
    rw [this] at hz
    injection hz with hz
    injection hz with hz _
    injection hz with hz
    rw [← hz]; rfl
  refine step_append_lies w hgd s x 22 ho base 34 i0 z 2 16 Try.underlying22 hi hz0 hz1 hz2 hzs (by decide) v n _ hs hown ⟨b, off, none⟩ m c (cellsP p r m) hx (cellsP_len _ _ _) (fun j u hj => ?_) (fun u hu => ?_) hm (by unfold maxLen; omega) (by omega) hbase w.heap.size rfl (fun g cap w' ho' hg hat _ => h _ w' ho' ?_ ?_)
  · have hjl : j < m * 2 := by
      have := (List.getElem?_eq_some_iff.1 hj).1
      rwa [cellsP_len] at this
    have hadd : (⟨b, off, none⟩ : Addr).add j = ⟨b, off + j, none⟩ := by unfold Addr.add; split <;> simp_all
    rw [hadd]
    obtain ⟨g1, g2⟩ := cellsP_get p r (show j / 2 < m by omega)
    obtain ⟨c1, c2⟩ := hc (j / 2) (by omega)
    by_cases e : j % 2 = 0
    · rw [show j / 2 * 2 = j by omega] at g1 c1
      rw [hj] at g1; rw [c1, ← g1]
    · rw [show j / 2 * 2 + 1 = j by omega] at g2
      rw [show off + j / 2 * 2 + 1 = off + j by omega] at c2
      rw [hj] at g2; rw [c2, ← g2]
  · unfold cellsP at hu
    obtain ⟨i, _, hi⟩ := List.mem_flatMap.1 hu
    simp at hi
    rcases hi with rfl | rfl <;> rfl
  · exact (Below.refl _ _).grown hg hbase (fun k hk => (hown.lt k hk).1)
  · intro p u hp hne
    exact hg.cell hp (fun e => hne e.symm)
/-- The empty literal is a row of none. -/
theorem own_empty (w : World) (base : Nat) (h : base ≤ w.heap.size) : (w.alloc (.cells #[] 34)).ownsRow base 34 2 (.slice (some ⟨w.heap.size, 0, none⟩) 0 0) 0 [] := by
  have := World.ownsRow_lit (base := base) (e := 34) (size := 2) w #[] 0 h (by unfold maxLen; omega) (by simp)
  exact this
end Go.Proofs.Ytdbadgnoognnnaa
