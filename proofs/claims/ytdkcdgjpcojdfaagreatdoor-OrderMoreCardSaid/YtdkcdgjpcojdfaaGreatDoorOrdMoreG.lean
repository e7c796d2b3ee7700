/-
  A rule more, of a name that is nowhere: it is the last one in the order, and turns nothing of the others. Plain facts; no program is named here.
-/
import Derived.Test.YtdkcdgjpcojdfaaGreatDoorOrdItemsG
import Derived.Test.YtdkcdgjpcojdfaaGreatDoorOC
import Derived.Test.YtdkcdgjpcojdfaaGreatDoorCheckMath5G

set_option linter.unusedVariables false
namespace PCheck
theorem madeF_append {E : List Xp} (F : List Xp) : ∀ (i : Nat) (m : List Bool), i ≤ E.length → madeF (E ++ F) i m = madeF E i m
  | 0, _, _ => rfl
  | i + 1, m, h => by
    unfold madeF
    rw [List.getElem?_append_left (by omega)]
    cases E[i]? with
    | none => rfl
    | some x =>
      simp only []
      by_cases hm : m[i]? = some true
      · rw [if_pos hm, if_pos hm]
        cases mark i (parts x) m with
        | none => rfl
        | some m' => exact madeF_append F i m' (by omega)
      · rw [if_neg hm, if_neg hm]; exact madeF_append F i m (by omega)
theorem kindsF_append {E : List Xp} {l : List Bd} {m : List Bool} (F : List Xp) : ∀ (f i : Nat) (ks : List Int), i + f ≤ E.length → kindsF l (E ++ F) m f i ks = kindsF l E m f i ks
  | 0, _, _, _ => rfl
  | f + 1, i, ks, h => by
    unfold kindsF
    rw [List.getElem?_append_left (by omega)]
    cases E[i]? with
    | none => rfl
    | some x =>
      simp only []
      rw [kindsF_append F f (i + 1) _ (by omega), kindsF_append F f (i + 1) _ (by omega)]
theorem kind_append {E : List Xp} {l : List Bd} (F : List Xp) {r : Nat} (h : r < E.length) : kind (E ++ F) (r : Int) l = kind E (r : Int) l := by
  unfold kind
  rw [if_neg (by rw [List.length_append]; omega), if_neg (by omega), Int.toNat_natCast]
  unfold made
  rw [madeF_append F _ _ (by omega)]
  cases madeF E (r + 1) ((List.replicate (r + 1) false).set r true) with
  | none => rfl
  | some m =>
    simp only []
    rw [kindsF_append F _ _ _ (by omega)]
end PCheck
namespace POrd
variable {n : Nat} {H H' : Nat → Nat → Bool}
theorem twice_more {names : List (List UInt8)} {z : List UInt8} (hz : z ∉ names) (hi : z ∉ inN) : twice (names ++ [z]) = twice names := by
  have hd : ∀ i, i < names.length → dup (names ++ [z]) i = dup names i := fun i h => by
    unfold dup
    rw [List.take_append_of_le_length (by omega)]
    simp [List.getD, List.getElem?_append_left h]
  have hl : dup (names ++ [z]) names.length = false := by
    unfold dup
    have e : (names ++ [z]).getD names.length [] = z := by simp [List.getD]
    rw [e, List.take_append_of_le_length (Nat.le_refl _), List.take_length, List.contains_eq_mem, decide_eq_false_iff_not, List.mem_append, not_or]
    exact ⟨hi, hz⟩
  unfold twice
  rw [List.length_append, List.length_singleton]
  cases h : least names.length (dup names) with
  | some i =>
    obtain ⟨h1, h2, h3⟩ := least_is h
    exact least_some (by omega) (by rw [hd i h1]; exact h2) (fun j hj => by rw [hd j (by omega)]; exact h3 j hj)
  | none =>
    have h3 := least_no h
    refine least_none fun j hj => ?_
    by_cases e : j = names.length
    · rw [e]; exact hl
    · rw [hd j (by omega)]; exact h3 j (by omega)
/-- One more, that hangs on none, and on which none hangs. -/
structure More (n : Nat) (H H' : Nat → Nat → Bool) : Prop where
  same : ∀ i k, i < n → k < n → H' i k = H i k
  on : ∀ i, i < n → H' i n = false
  last : ∀ k, k ≤ n → H' n k = false
theorem free_more (h : More n H H') {l : List Nat} (hl : ∀ i ∈ l, i < n) {x : List Nat} (hx : ∀ i ∈ x, i = n) {i : Nat} (hi : i < n) : free (n + 1) H' (l ++ x) i = free n H l i := by
  rw [Bool.eq_iff_iff, free_iff, free_iff]
  have hm : ∀ k, k < n → (k ∈ l ++ x ↔ k ∈ l) := fun k hk => by
    rw [List.mem_append]
    exact ⟨fun e => e.resolve_right (fun e => by have := hx k e; omega), .inl⟩
  constructor
  · rintro ⟨h1, h2⟩
    refine ⟨fun e => h1 ((hm i hi).2 e), fun k hk hh => (hm k hk).1 (h2 k (by omega) (by rw [h.same i k hi hk]; exact hh))⟩
  · rintro ⟨h1, h2⟩
    refine ⟨fun e => h1 ((hm i hi).1 e), fun k hk hh => ?_⟩
    by_cases e : k = n
    · subst e; rw [h.on i hi] at hh; cases hh
    · exact (hm k (by omega)).2 (h2 k (by omega) (by rw [← h.same i k hi (by omega)]; exact hh))
theorem next_some (h : More n H H') {l : List Nat} (hl : ∀ i ∈ l, i < n) {i : Nat} (hn : next n H l = some i) : next (n + 1) H' l = some i := by
  obtain ⟨h1, h2, h3⟩ := least_is hn
  have e := fun j (hj : j < n) => free_more h hl (x := []) (fun i hi => by cases hi) hj
  simp only [List.append_nil] at e
  exact least_some (by omega) (by rw [e i h1]; exact h2) (fun j hj => by rw [e j (by omega)]; exact h3 j hj)
theorem next_last (h : More n H H') {l : List Nat} (hl : ∀ i ∈ l, i < n) (hn : next n H l = none) : next (n + 1) H' l = some n := by
  have h3 := least_no hn
  have e := fun j (hj : j < n) => free_more h hl (x := []) (fun i hi => by cases hi) hj
  simp only [List.append_nil] at e
  refine least_some (by omega) (free_iff.2 ⟨fun k => by have := hl _ k; omega, fun k hk hh => ?_⟩) (fun j hj => by rw [e j hj]; exact h3 j hj)
  rw [h.last k (by omega)] at hh; cases hh
theorem next_none (h : More n H H') {l : List Nat} (hl : ∀ i ∈ l, i < n) (hn : next n H l = none) : next (n + 1) H' (l ++ [n]) = none := by
  have h3 := least_no hn
  refine least_none fun j hj => ?_
  by_cases e : j = n
  · subst e
    rw [Bool.eq_false_iff]
    intro hf
    exact (free_iff.1 hf).1 (by simp)
  · rw [free_more h hl (fun i hi => List.mem_singleton.1 hi) (by omega)]; exact h3 j (by omega)
theorem full_none {l : List Nat} (h : Good0 n l) (hl : l.length = n) : next n H l = none := by
  refine least_none fun j hj => ?_
  rw [Bool.eq_false_iff]
  intro hf
  have hj2 := (free_iff.1 hf).1
  have := good0_len (n := n) (l := j :: l) ⟨List.nodup_cons.2 ⟨hj2, h.nodup⟩, fun i hi => by
    rcases List.mem_cons.1 hi with rfl | hi
    · exact hj
    · exact h.lt i hi⟩
  rw [List.length_cons] at this; omega
theorem first_more {l : List Nat} (h : Good0 n l) (hl : l.length < n) : first (n + 1) (l ++ [n]) = first n l := by
  obtain ⟨h1, h2, h3⟩ := first_is h hl
  have : least (n + 1) (fun i => !(l ++ [n]).contains i) = some (first n l) := by
    refine least_some (by omega) ?_ (fun j hj => ?_)
    · have : first n l ∉ l ++ [n] := fun k => by
        rcases List.mem_append.1 k with k | k
        · exact h2 k
        · have := List.mem_singleton.1 k; omega
      simpa using this
    · have := h3 j hj
      simp [this]
  show (least (n + 1) (fun i => !(l ++ [n]).contains i)).getD 0 = _
  rw [this]; rfl
theorem sort_more (h : More n H H') : ∀ (f : Nat) (l : List Nat), Good0 n l → l.length + f = n → sortF (n + 1) H' (f + 1) l = match sortF n H f l with
    | (some r, _) => (some (r ++ [n]), 0)
    | (none, j) => (none, j)
  | 0, l, hg, hf => by
    have hn := next_last h hg.lt (full_none (H := H) hg (by omega))
    rw [sortF_more (by omega) hn]; rfl
  | f + 1, l, hg, hf => by
    cases hn : next n H l with
    | some i =>
      rw [sortF_more (n := n) (by omega) hn, sortF_more (by omega) (next_some h hg.lt hn)]
      exact sort_more h f _ (good0_snoc hg hn) (by simp; omega)
    | none =>
      rw [sortF_stop (n := n) (by omega) hn, sortF_more (by omega) (next_last h hg.lt hn), sortF_stop (by simp; omega) (next_none h hg.lt hn), first_more hg (by omega)]
/-- What is told of it. -/
def moreA (n : Nat) : List Nat × Nat × Nat → List Nat × Nat × Nat
  | (l, at', 0) => (l ++ [n], at', 0)
  | (l, at', e + 1) => (l, at', e + 1)
theorem ans_more {names : List (List UInt8)} {z : List UInt8} (hz : z ∉ names) (hi : z ∉ inN) (h : More names.length H H') : ans (names ++ [z]) H' = moreA names.length (ans names H) := by
  have hs := sort_more h names.length [] ⟨List.nodup_nil, fun i h => by cases h⟩ (by simp)
  unfold ans
  rw [twice_more hz hi, List.length_append, List.length_singleton]
  cases twice names with
  | some i => rfl
  | none =>
    simp only []
    show (match sortF (names.length + 1) H' (names.length + 1) [] with | (some l, _) => (l, 0, 0) | (none, i) => ([], i, 8)) = moreA names.length (match sortF names.length H names.length [] with | (some l, _) => (l, 0, 0) | (none, i) => ([], i, 8))
    rw [hs]
    cases sortF names.length H names.length [] with
    | mk o j => cases o <;> rfl
end POrd
namespace Go.Proofs.YtdkcdgjpcojdfaaGreatDoor
open Go.RowKit
open PCheck (Xp Bd bound)
open PTree (Tr Rl Ex Wf X0 It)

def loneW : List UInt8 := [108, 111, 110, 101, 108, 121]
def loneR : Rl := ⟨letS, loneW, .whole 1⟩
def loneT : List UInt8 := [108, 101, 116, 32, 108, 111, 110, 101, 108, 121, 32, 61, 32, 49, 59]
theorem lone_parse : PTree.parse loneT = some (.ok [] [loneR]) := by decide +kernel
theorem size_snoc (rs : List Rl) (r : Rl) : PTree.sizeOf (rs ++ [r]) = PTree.sizeOf rs + r.tree.size := by unfold PTree.sizeOf; simp
theorem xpX_snoc (rs : List Rl) (r : Rl) : xpX (rs ++ [r]) = xpX rs ++ (r.tree.flat (PTree.sizeOf rs)).map PShow.exX := by
  unfold xpX
  rw [PTree.exprsOf_append, List.map_append, Nat.zero_add]
  simp [PTree.exprsOf]
theorem rwX_snoc (rs : List Rl) (r : Rl) : rwX (rs ++ [r]) = rwX rs ++ [(r.kind, r.name, ((PTree.sizeOf rs + r.tree.size - 1 : Nat) : Int))] := by
  unfold rwX
  rw [PTree.rowsOf_append, List.map_append, Nat.zero_add]
  simp [PTree.rowsOf]
theorem lone_more {rs : List Rl} (hn : ∀ r ∈ rs, loneW ∉ POrd.nms r.tree) : POrd.More rs.length (POrd.hangs rs) (POrd.hangs (rs ++ [loneR])) where
  same := fun i k hi hk => by
    unfold POrd.hangs
    rw [List.getElem?_append_left hi, List.getElem?_append_left hk]
  on := fun i hi => by
    unfold POrd.hangs
    rw [List.getElem?_append_left hi, List.getElem?_eq_getElem hi, List.getElem?_append_right (Nat.le_refl _), Nat.sub_self]
    show (POrd.nms (rs[i]).tree).contains loneW = false
    rw [List.contains_eq_mem, decide_eq_false_iff_not]
    exact hn _ (List.getElem_mem hi)
  last := fun k hk => by
    unfold POrd.hangs
    rw [List.getElem?_append_right (Nat.le_refl _), Nat.sub_self]
    cases (rs ++ [loneR])[k]? with
    | none => rfl
    | some q => rfl
theorem chk_more {rs : List Rl} : ∀ (l : List Nat) (bd : List Bd) (ks : List Int), (∀ i ∈ l, i < rs.length) → ks.length = rs.length →
    chk (xpX (rs ++ [loneR])) (rwX (rs ++ [loneR])) (l ++ [rs.length]) bd (ks ++ [0]) = match chk (xpX rs) (rwX rs) l bd ks with
      | (k2, p, 0) => (k2 ++ [3], p, 0)
      | (k2, p, e + 1) => (k2, p, e + 1)
  | [], bd, ks, _, hk => by
    have hr : (rwX (rs ++ [loneR]))[rs.length]? = some (letS, loneW, ((PTree.sizeOf rs : Nat) : Int)) := by
      rw [rwX_snoc, List.getElem?_append_right (by rw [rwX_len]; exact Nat.le_refl _), rwX_len, Nat.sub_self]
      show some (letS, loneW, ((PTree.sizeOf rs + 1 - 1 : Nat) : Int)) = _
      rw [Nat.add_sub_cancel]
    have hK : PCheck.K (xpX (rs ++ [loneR])) bd (PTree.sizeOf rs) = 3 := by
      rw [xpX_snoc]
      have := PCheck.K_whole (E := xpX rs) (l := bd) (F := (loneR.tree.flat (PTree.sizeOf rs)).map PShow.exX) (i := 0) (nm := []) (v := 1) (a := 0) (b := 0) (c := 0) rfl
      rwa [xpX_len, Nat.add_zero] at this
    have hlt : PTree.sizeOf rs < (xpX (rs ++ [loneR])).length := by
      rw [xpX_len, size_snoc]
      show _ < _ + 1
      omega
    have hkd : PCheck.kind (xpX (rs ++ [loneR])) ((PTree.sizeOf rs : Nat) : Int) bd = (3, 0, 0) := by
      rw [(PCheck.kind_iff (l := bd) hlt).1 (by rw [hK]; decide), hK]
    show chk _ _ [rs.length] bd (ks ++ [0]) = (ks ++ [3], 0, 0)
    unfold chk
    rw [hr]
    simp only []
    rw [hkd]
    simp only []
    rw [if_neg (by decide), if_neg (fun h => h.1 rfl)]
    unfold chk
    rw [List.set_append_right _ _ (by omega), hk, Nat.sub_self]
    rfl
  | i :: l, bd, ks, hl, hk => by
    have hi := hl i (List.mem_cons_self ..)
    obtain ⟨r, hr⟩ : ∃ r, rs[i]? = some r := ⟨_, List.getElem?_eq_getElem hi⟩
    have h1 := rw_at hr
    have h2 : (rwX (rs ++ [loneR]))[i]? = some (r.kind, r.name, ((offs rs i + r.tree.size - 1 : Nat) : Int)) := by
      rw [rwX_snoc, List.getElem?_append_left (by rw [rwX_len]; exact hi)]; exact h1
    have ho := offs_le hr
    have hp := r.tree.size_pos
    have hkd : PCheck.kind (xpX (rs ++ [loneR])) ((offs rs i + r.tree.size - 1 : Nat) : Int) bd = PCheck.kind (xpX rs) ((offs rs i + r.tree.size - 1 : Nat) : Int) bd := by
      rw [xpX_snoc]; exact PCheck.kind_append _ (by rw [xpX_len]; omega)
    rw [List.cons_append]
    unfold chk
    rw [h1, h2]
    simp only []
    rw [hkd]
    by_cases he : (PCheck.kind (xpX rs) ((offs rs i + r.tree.size - 1 : Nat) : Int) bd).2.2 ≠ 0
    · rw [if_pos he, if_pos he]
      obtain ⟨e, hee⟩ : ∃ e, (PCheck.kind (xpX rs) ((offs rs i + r.tree.size - 1 : Nat) : Int) bd).2.2 = e + 1 := ⟨_, (Nat.succ_pred_eq_of_ne_zero he).symm⟩
      rw [hee]
    · rw [if_neg he, if_neg he]
      by_cases ht : r.kind ≠ letS ∧ (PCheck.kind (xpX rs) ((offs rs i + r.tree.size - 1 : Nat) : Int) bd).1 ≠ 1
      · rw [if_pos ht, if_pos ht]
      · rw [if_neg ht, if_neg ht]
        have := chk_more (rs := rs) l (bd ++ [⟨r.name, (PCheck.kind (xpX rs) ((offs rs i + r.tree.size - 1 : Nat) : Int) bd).1⟩]) (ks.set i (PCheck.kind (xpX rs) ((offs rs i + r.tree.size - 1 : Nat) : Int) bd).1) (fun j hj => hl j (List.mem_cons_of_mem _ hj)) (by rw [List.length_set]; exact hk)
        rw [← this, List.set_append_left _ _ (by omega)]
/-- What is told of all, with one more. -/
def moreC (n : Nat) : List Nat × List Int × Nat × Nat → List Nat × List Int × Nat × Nat
  | (l, ks, p, 0) => (l ++ [n], ks ++ [3], p, 0)
  | (l, ks, p, e + 1) => (l, ks, p, e + 1)
theorem lone_chk {rs : List Rl} (h1 : ∀ r ∈ rs, r.name ≠ loneW) (h2 : ∀ r ∈ rs, loneW ∉ POrd.nms r.tree) :
    chkA (rs.length + 1) (xpX (rs ++ [loneR])) (rwX (rs ++ [loneR])) (POrd.ans (nmR (rwX (rs ++ [loneR]))) (POrd.hangs (rs ++ [loneR]))) = moreC rs.length (chkA rs.length (xpX rs) (rwX rs) (POrd.ans (nmR (rwX rs)) (POrd.hangs rs))) := by
  have hnm : nmR (rwX (rs ++ [loneR])) = nmR (rwX rs) ++ [loneW] := by rw [rwX_snoc]; unfold nmR; rw [List.map_append]; rfl
  have hnl : (nmR (rwX rs)).length = rs.length := by rw [nmR_len, rwX_len]
  have hz : loneW ∉ nmR (rwX rs) := fun k => by
    unfold nmR rwX at k
    rw [List.map_map, List.mem_map] at k
    obtain ⟨y, hy, e⟩ := k
    have : ∀ (rs : List Rl) (o : Nat), ∀ q ∈ PTree.rowsOf o rs, ∃ r ∈ rs, q.name = r.name := by
      intro rs
      induction rs with
      | nil => intro o q hq; cases hq
      | cons r rs ih =>
        intro o q hq
        rcases List.mem_cons.1 hq with rfl | hq
        · exact ⟨r, List.mem_cons_self .., rfl⟩
        · obtain ⟨r', h1, h2⟩ := ih _ q hq
          exact ⟨r', List.mem_cons_of_mem _ h1, h2⟩
    obtain ⟨r, hr, e2⟩ := this rs 0 y hy
    exact h1 r hr (by rw [← e2]; exact e)
  have ha := POrd.ans_more (H := POrd.hangs rs) (H' := POrd.hangs (rs ++ [loneR])) hz (by decide) (by rw [hnl]; exact lone_more h2)
  rw [hnm, ha, hnl]
  cases hA : POrd.ans (nmR (rwX rs)) (POrd.hangs rs) with
  | mk l x =>
    obtain ⟨p, e⟩ := x
    cases e with
    | succ e => rfl
    | zero =>
      have hok := POrd.ans_ok hA
      rw [hnl] at hok
      obtain ⟨g1, g2, rfl⟩ := hok
      have hc := chk_more (rs := rs) l POrd.inB (List.replicate rs.length 0) g1.lt (by rw [List.length_replicate])
      rw [← List.replicate_succ'] at hc
      show chkR (l ++ [rs.length]) (chk _ _ (l ++ [rs.length]) POrd.inB (List.replicate (rs.length + 1) 0)) = moreC rs.length (chkR l (chk _ _ l POrd.inB (List.replicate rs.length 0)))
      rw [hc]
      cases chk (xpX rs) (rwX rs) l POrd.inB (List.replicate rs.length 0) with
      | mk k2 x =>
        obtain ⟨p, e⟩ := x
        cases e <;> rfl
end Go.Proofs.YtdkcdgjpcojdfaaGreatDoor
