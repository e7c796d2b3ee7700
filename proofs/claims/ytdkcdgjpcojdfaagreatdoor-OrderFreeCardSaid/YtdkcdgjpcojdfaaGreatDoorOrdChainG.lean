/-
  The order, and the kinds, of rules of one word each: where each hangs on the next one, and where none hangs on another. Plain facts; no program is named here.
-/
import Derived.Test.YtdkcdgjpcojdfaaGreatDoorOrdItemsG
import Derived.Test.YtdkcdgjpcojdfaaGreatDoorOC

set_option linter.unusedVariables false
namespace POrd
theorem no_dup {n : Nat} {nm : Nat → List UInt8} (hin : ∀ i, i < n → nm i ∉ inN) (hinj : ∀ i j, i < n → j < n → nm i = nm j → i = j) : twice ((List.range n).map nm) = none := by
  unfold twice
  refine least_none fun i hi => ?_
  rw [List.length_map, List.length_range] at hi
  unfold dup
  have e : ((List.range n).map nm).getD i [] = nm i := by simp [List.getD, hi]
  rw [e, List.contains_eq_mem, decide_eq_false_iff_not, List.mem_append, not_or]
  refine ⟨hin i hi, fun h => ?_⟩
  rw [← List.map_take, List.mem_map] at h
  obtain ⟨j, hj, e⟩ := h
  rw [List.take_range, List.mem_range] at hj
  have := hinj j i (by omega) hi e
  omega
/-- Each one hangs on the next. -/
theorem chain_sort {m : Nat} {H : Nat → Nat → Bool} (h : ∀ i k, i < m → k < m → (H i k = true ↔ k = i + 1)) : ∀ f t, t + f = m → sortF m H f ((List.range t).map (fun i => m - 1 - i)) = (some ((List.range m).map (fun i => m - 1 - i)), 0)
  | 0, t, e => by obtain rfl : t = m := by omega
                  rfl
  | f + 1, t, e => by
    have hmem : ∀ k, k ∈ (List.range t).map (fun i => m - 1 - i) ↔ m - t ≤ k ∧ k < m := fun k => by
      rw [List.mem_map]
      constructor
      · rintro ⟨i, hi, rfl⟩
        have := List.mem_range.1 hi
        omega
      · rintro ⟨h1, h2⟩
        exact ⟨m - 1 - k, List.mem_range.2 (by omega), by omega⟩
    have hn : next m H ((List.range t).map (fun i => m - 1 - i)) = some (m - 1 - t) := by
      refine least_some (by omega) (free_iff.2 ⟨fun k => by have := (hmem _).1 k; omega, fun k hk hh => ?_⟩) (fun j hj => ?_)
      · have := (h _ _ (by omega) hk).1 hh
        exact (hmem _).2 (by omega)
      · rw [Bool.eq_false_iff]
        intro hf
        have := (free_iff.1 hf).2 (j + 1) (by omega) ((h j (j + 1) (by omega) (by omega)).2 rfl)
        have := (hmem _).1 this
        omega
    rw [sortF_more (by simp; omega) hn]
    have := chain_sort h f (t + 1) (by omega)
    rw [List.range_succ, List.map_append] at this
    exact this
/-- None hangs on another. -/
theorem free_sort {m : Nat} {H : Nat → Nat → Bool} (h : ∀ i k, i < m → k < m → H i k = false) : ∀ f t, t + f = m → sortF m H f (List.range t) = (some (List.range m), 0)
  | 0, t, e => by obtain rfl : t = m := by omega
                  rfl
  | f + 1, t, e => by
    have hn : next m H (List.range t) = some t := by
      refine least_some (by omega) (free_iff.2 ⟨fun k => by have := List.mem_range.1 k; omega, fun k hk hh => ?_⟩) (fun j hj => ?_)
      · rw [h _ _ (by omega) hk] at hh; cases hh
      · rw [Bool.eq_false_iff]
        intro hf
        exact (free_iff.1 hf).1 (List.mem_range.2 hj)
    rw [sortF_more (by simp; omega) hn]
    have := free_sort h f (t + 1) (by omega)
    rw [List.range_succ] at this
    exact this
/-- Each one hangs on another. -/
theorem round_sort {m : Nat} {H : Nat → Nat → Bool} (h0 : 0 < m) (h : ∀ i, i < m → ∃ k, k < m ∧ H i k = true) : sortF m H m [] = (none, 0) := by
  obtain ⟨f, rfl⟩ : ∃ f, m = f + 1 := ⟨m - 1, by omega⟩
  have hn : next (f + 1) H [] = none := least_none fun j hj => by
    rw [Bool.eq_false_iff]
    intro hf
    obtain ⟨k, hk, hh⟩ := h j hj
    cases (free_iff.1 hf).2 k hk hh
  rw [sortF_stop (by simp) hn]
  have : least (f + 1) (fun i => !([] : List Nat).contains i) = some 0 := least_some h0 rfl (fun j hj => absurd hj (Nat.not_lt_zero _))
  unfold first
  rw [this]; rfl
end POrd
namespace Go.Proofs.YtdkcdgjpcojdfaaGreatDoor
open Go.RowKit
open PCheck (Xp Bd bound)
open PTree (Tr Rl Ex Wf X0 It chI chL frI frL nmI)

theorem names_is (rs : List Rl) : nmR (rwX rs) = rs.map (·.name) := by
  have h : ∀ (rs : List Rl) (o : Nat), (PTree.rowsOf o rs).map (fun r => r.name) = rs.map (·.name) := by
    intro rs
    induction rs with
    | nil => intro o; rfl
    | cons r rs ih => intro o; simp only [PTree.rowsOf, List.map_cons, ih]
  unfold nmR rwX
  rw [List.map_map]
  exact h rs 0
theorem nms_in {n : Nat} (hn : n ≤ 40) : POrd.twice ((List.range n).map nmI) = none :=
  POrd.no_dup (fun i hi => PTree.nm_in (by omega)) (fun i j hi hj e => PTree.nm_inj (by omega) (by omega) e)
theorem chI_nm (m : Nat) (rd : Bool) (i : Nat) : (chI m rd i).nm = nmI i := by unfold chI; split <;> (try split) <;> rfl
theorem ch_at {m : Nat} {rd : Bool} {i : Nat} (h : i < m) : ((chL m rd m).map It.rl)[i]? = some (chI m rd i).rl := by unfold chL; simp [h]
theorem ch_names (m : Nat) (rd : Bool) : nmR (rwX ((chL m rd m).map It.rl)) = (List.range m).map nmI := by
  rw [names_is]; unfold chL
  rw [List.map_map, List.map_map]
  exact List.map_congr_left fun i _ => chI_nm m rd i
theorem ch_hangs {m : Nat} {rd : Bool} {i k : Nat} (hi : i < m) (hk : k < m) : POrd.hangs ((chL m rd m).map It.rl) i k = (POrd.nms (chI m rd i).tr).contains (nmI k) := by
  unfold POrd.hangs
  rw [ch_at hi, ch_at hk]
  show (POrd.nms (chI m rd i).tr).contains (chI m rd k).nm = _
  rw [chI_nm]
theorem has_nm {i k : Nat} (hi : i < 41) (hk : k < 41) : (POrd.nms (.name (nmI i))).contains (nmI k) = true ↔ k = i := by
  show ([nmI i] : List (List UInt8)).contains (nmI k) = true ↔ _
  rw [List.contains_eq_mem, decide_eq_true_eq, List.mem_singleton]
  exact ⟨fun e => PTree.nm_inj hk hi e, fun e => by rw [e]⟩
/-- The order where each hangs on the next one. -/
theorem chain_ans {m : Nat} (hm : m ≤ 40) : POrd.ans (nmR (rwX ((chL m false m).map It.rl))) (POrd.hangs ((chL m false m).map It.rl)) = ((List.range m).map (fun i => m - 1 - i), 0, 0) := by
  have hs := POrd.chain_sort (m := m) (H := POrd.hangs ((chL m false m).map It.rl)) (fun i k hi hk => by
    rw [ch_hangs hi hk]
    unfold chI
    by_cases h : i + 1 < m
    · rw [if_pos h]; exact has_nm (by omega) (by omega)
    · rw [if_neg h, if_neg (by decide)]
      exact ⟨fun e => (by cases e), fun e => by omega⟩) m 0 (by omega)
  unfold POrd.ans
  rw [ch_names, nms_in hm, List.length_map, List.length_range]
  simp only []
  rw [show POrd.sort m (POrd.hangs ((chL m false m).map It.rl)) = (some ((List.range m).map (fun i => m - 1 - i)), 0) from hs]
theorem round_ans {m : Nat} (hm : m ≤ 40) (h0 : 0 < m) : POrd.ans (nmR (rwX ((chL m true m).map It.rl))) (POrd.hangs ((chL m true m).map It.rl)) = ([], 0, 8) := by
  have hs := POrd.round_sort (m := m) (H := POrd.hangs ((chL m true m).map It.rl)) h0 (fun i hi => by
    by_cases h : i + 1 < m
    · refine ⟨i + 1, h, ?_⟩
      rw [ch_hangs hi h]
      unfold chI
      rw [if_pos h]; exact (has_nm (by omega) (by omega)).2 rfl
    · refine ⟨0, h0, ?_⟩
      rw [ch_hangs hi h0]
      unfold chI
      rw [if_neg h, if_pos rfl]; exact (has_nm (by omega) (by omega)).2 rfl)
  unfold POrd.ans
  rw [ch_names, nms_in hm, List.length_map, List.length_range]
  simp only []
  rw [show POrd.sort m (POrd.hangs ((chL m true m).map It.rl)) = (none, 0) from hs]

theorem frI_nm (f : Nat → Bool) (i : Nat) : (frI f i).nm = nmI i := by unfold frI; split <;> rfl
def frW (f : Nat → Bool) (i : Nat) : List UInt8 := if f i = true then PTree.baseW else PTree.hoursW
theorem frI_tr (f : Nat → Bool) (i : Nat) : (frI f i).tr = .name (frW f i) := by unfold frI frW; split <;> rfl
theorem frI_kw (f : Nat → Bool) (i : Nat) : (frI f i).kw = PTree.earnW := by unfold frI; split <;> rfl
theorem fr_at {f : Nat → Bool} {m i : Nat} (h : i < m) : ((frL f m).map It.rl)[i]? = some (frI f i).rl := by unfold frL; simp [h]
theorem fr_names (f : Nat → Bool) (m : Nat) : nmR (rwX ((frL f m).map It.rl)) = (List.range m).map nmI := by
  rw [names_is]; unfold frL
  rw [List.map_map, List.map_map]
  exact List.map_congr_left fun i _ => frI_nm f i
theorem free_ans {f : Nat → Bool} {m : Nat} (hm : m ≤ 40) : POrd.ans (nmR (rwX ((frL f m).map It.rl))) (POrd.hangs ((frL f m).map It.rl)) = (List.range m, 0, 0) := by
  have hs := POrd.free_sort (m := m) (H := POrd.hangs ((frL f m).map It.rl)) (fun i k hi hk => by
    unfold POrd.hangs
    rw [fr_at hi, fr_at hk]
    show (POrd.nms (frI f i).tr).contains (frI f k).nm = _
    rw [frI_nm, frI_tr]
    show ([frW f i] : List (List UInt8)).contains (nmI k) = false
    rw [List.contains_eq_mem, decide_eq_false_iff_not, List.mem_singleton]
    intro e
    have := PTree.nm_in (i := k) (by omega)
    rw [e] at this
    unfold frW at this
    split at this <;> exact this (by decide)) m 0 (by omega)
  unfold POrd.ans
  rw [fr_names, nms_in hm, List.length_map, List.length_range]
  simp only []
  rw [show POrd.sort m (POrd.hangs ((frL f m).map It.rl)) = (some (List.range m), 0) from hs]
theorem fr_off {f : Nat → Bool} {m i : Nat} (hm : m ≤ 40) (hi : i ≤ m) : offs ((frL f m).map It.rl) i = i := by
  unfold offs
  rw [← List.map_take, PTree.items_size (fun x hx => PTree.frL_ok f hm x (List.mem_of_mem_take hx)), List.length_take, PTree.frL_len]
  omega
theorem kind_word {E : List Xp} {bd : List Bd} {i : Nat} {s : List UInt8} {k v a b c : Int} (hx : E[i]? = some ⟨PCheck.nameS, s, v, a, b, c⟩) (hb : bound bd s = some k) (hk : k ≠ 0) : PCheck.kind E (i : Int) bd = (k, 0, 0) := by
  have hlt := (List.getElem?_eq_some_iff.1 hx).1
  have hf : PCheck.Fine i ⟨PCheck.nameS, s, v, a, b, c⟩ := fun p hp => by unfold PCheck.parts at hp; rw [if_pos (.inr (.inr (.inr rfl)))] at hp; cases hp
  have hK : PCheck.K E bd i = k := by
    rw [PCheck.K_fine hx hf]
    unfold PCheck.kindOf
    rw [if_pos rfl, hb]
    simp only []
    rw [if_neg hk]
  rw [(PCheck.kind_iff (l := bd) hlt).1 (by rw [hK]; exact hk), hK]
theorem fr_kind {f : Nat → Bool} {m i : Nat} (hm : m ≤ 40) (hi : i < m) {bd : List Bd} (h1 : bound bd PTree.baseW = some 1) (h3 : bound bd PTree.hoursW = some 3) :
    (rwX ((frL f m).map It.rl))[i]? = some (PTree.earnW, nmI i, (i : Int)) ∧ PCheck.kind (xpX ((frL f m).map It.rl)) (i : Int) bd = (if f i = true then 1 else 3, 0, 0) := by
  have hr := fr_at (f := f) hi
  have hz : (frI f i).rl.tree.size = 1 := by show (frI f i).tr.size = 1; rw [frI_tr]; rfl
  have hl := lies_at hr 0 ⟨PCheck.nameS, frW f i, 0, 0, 0, 0⟩ (by show ((frI f i).tr.flat _)[0]? = _; rw [frI_tr]; rfl)
  rw [fr_off hm (by omega), Nat.add_zero] at hl
  refine ⟨?_, ?_⟩
  · rw [rw_at hr, hz, fr_off hm (by omega), Nat.add_sub_cancel]
    show some ((frI f i).kw, (frI f i).nm, (i : Int)) = _
    rw [frI_kw, frI_nm]
  · by_cases h : f i = true
    · rw [if_pos h]; exact kind_word hl (by unfold frW; rw [if_pos h]; exact h1) (by decide)
    · rw [if_neg h]; exact kind_word hl (by unfold frW; rw [if_neg h]; exact h3) (by decide)
theorem free_chk {f : Nat → Bool} {m : Nat} (hm : m ≤ 40) : ∀ (k i : Nat) (bd : List Bd) (ks : List Int), i + k = m → bound bd PTree.baseW = some 1 → bound bd PTree.hoursW = some 3 →
    ((∀ j, i ≤ j → j < m → f j = true) → ∃ ks', chk (xpX ((frL f m).map It.rl)) (rwX ((frL f m).map It.rl)) (List.range' i k) bd ks = (ks', 0, 0) ∧ ks'.length = ks.length) ∧
    (∀ j0, i ≤ j0 → j0 < m → f j0 = false → (∀ j, i ≤ j → j < j0 → f j = true) → chk (xpX ((frL f m).map It.rl)) (rwX ((frL f m).map It.rl)) (List.range' i k) bd ks = ([], j0, 7))
  | 0, i, bd, ks, e, _, _ => ⟨fun _ => ⟨ks, rfl, rfl⟩, fun j0 h1 h2 => by omega⟩
  | k + 1, i, bd, ks, e, h1, h3 => by
    obtain ⟨hr, hk⟩ := fr_kind (f := f) hm (show i < m by omega) h1 h3
    have ih := fun x ks => free_chk (f := f) hm k (i + 1) (bd ++ [x]) ks (by omega) (PCheck.bound_more _ h1) (PCheck.bound_more _ h3)
    rw [List.range'_succ]
    unfold chk
    rw [hr]
    simp only []
    rw [hk]
    simp only []
    rw [if_neg (by decide)]
    by_cases hf : f i = true
    · rw [if_pos hf, if_neg (fun h => h.2 rfl)]
      refine ⟨fun h => ?_, fun j0 g1 g2 g3 g4 => ?_⟩
      · obtain ⟨ks', e1, e2⟩ := (ih _ _).1 (fun j a b => h j (by omega) b)
        exact ⟨ks', e1, by rw [e2, List.length_set]⟩
      · refine (ih _ _).2 j0 (by rcases Nat.lt_or_ge i j0 with h | h; · exact h
                                 · obtain rfl : i = j0 := by omega
                                   rw [hf] at g3; cases g3) g2 g3 (fun j a b => g4 j (by omega) b)
    · rw [if_neg hf, if_pos ⟨by decide, by decide⟩]
      refine ⟨fun h => absurd (h i (Nat.le_refl _) (by omega)) hf, fun j0 g1 g2 g3 g4 => ?_⟩
      rcases Nat.lt_or_ge i j0 with h | h
      · exact absurd (g4 i (Nat.le_refl _) h) hf
      · obtain rfl : i = j0 := by omega
        rfl
/-- What is told of rules that hang on none. -/
theorem free_all {f : Nat → Bool} {m : Nat} (hm : m ≤ 40) (h : ∀ j, j < m → f j = true) : ∃ ks : List Int, ks.length = m ∧ chkA m (xpX ((frL f m).map It.rl)) (rwX ((frL f m).map It.rl)) (POrd.ans (nmR (rwX ((frL f m).map It.rl))) (POrd.hangs ((frL f m).map It.rl))) = (List.range m, ks, 0, 0) := by
  obtain ⟨ks, e1, e2⟩ := (free_chk (f := f) hm m 0 POrd.inB (List.replicate m 0) (by omega) rfl rfl).1 (fun j _ b => h j b)
  rw [← List.range_eq_range'] at e1
  refine ⟨ks, by rw [e2, List.length_replicate], ?_⟩
  rw [free_ans hm]
  show chkR (List.range m) (chk _ _ (List.range m) POrd.inB (List.replicate m 0)) = _
  rw [e1]; rfl
theorem free_one {f : Nat → Bool} {m : Nat} (hm : m ≤ 40) {j0 : Nat} (h0 : j0 < m) (hf : f j0 = false) (h : ∀ j, j < j0 → f j = true) : chkA m (xpX ((frL f m).map It.rl)) (rwX ((frL f m).map It.rl)) (POrd.ans (nmR (rwX ((frL f m).map It.rl))) (POrd.hangs ((frL f m).map It.rl))) = ([], [], j0, 7) := by
  have e1 := (free_chk (f := f) hm m 0 POrd.inB (List.replicate m 0) (by omega) rfl rfl).2 j0 (Nat.zero_le _) h0 hf (fun j _ b => h j b)
  rw [← List.range_eq_range'] at e1
  rw [free_ans hm]
  show chkR (List.range m) (chk _ _ (List.range m) POrd.inB (List.replicate m 0)) = _
  rw [e1]; rfl
end Go.Proofs.YtdkcdgjpcojdfaaGreatDoor
