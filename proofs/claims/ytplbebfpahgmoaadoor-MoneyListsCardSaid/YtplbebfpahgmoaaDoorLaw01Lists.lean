/-
  MoneyLists: the sum of a list with its first one last is the same; of one number it is it; of none 0 (at most 100 numbers below 2^53).
-/
import Derived.Test.YtplbebfpahgmoaaDoorLaw01First
import Derived.Deep.RegionHeld3
import Derived.Deep.AppendLies
import Derived.RangeFuncBox
import Derived.Deep.DeepCutAuto
namespace Go.Proofs.YtplbebfpahgmoaaDoor
open Go.RowKit

/-- The turned row. -/
def Turned (w : World) (B g n c : Nat) (l : List Int) : Prop := w.ownsRow B 3 1 (.slice (some ⟨g, 0, none⟩) n c) n (cellsOfInts l)
theorem turned_one {w : World} {B g n c : Nat} {l : List Int} {s0 : Int} (hn : 1 ≤ n) (h : w.ownsRow B 3 1 (.slice (some ⟨g, 0, none⟩) (n - 1 + 1) c) (n - 1 + 1) (cellsOfInts l ++ [.int .i64 s0])) : Turned w B g n c (l ++ [s0]) := by
  unfold Turned
  rw [show n - 1 + 1 = n by omega] at h
  rw [show cellsOfInts (l ++ [s0]) = cellsOfInts l ++ [.int .i64 s0] by simp [cellsOfInts]]
  exact h
theorem turned_two {w : World} {B g n c : Nat} {l : List Int} {s0 : Int} (hn : 1 ≤ n) (h : w.ownsRow B 3 1 (.slice (some ⟨g, 0, none⟩) (0 + (n - 1) + 1) c) (0 + (n - 1) + 1) ([] ++ cellsOfInts l ++ [.int .i64 s0])) : Turned w B g n c (l ++ [s0]) := by
  rw [Nat.zero_add, List.nil_append] at h
  exact turned_one hn h
theorem turned_single {w : World} {B g c : Nat} {t : List Int} {s0 : Int} (h : w.ownsRow B 3 1 (.slice (some ⟨g, 0, none⟩) (0 + 1) c) (0 + 1) ([] ++ [.int .i64 s0])) (ht : t.length = 0) : Turned w B g 1 c (t ++ [s0]) := by
  rw [List.eq_nil_of_length_eq_zero ht]
  exact h
theorem turned_sl {w : World} {B g n c : Nat} {l : List Int} (h : Turned w B g n c l) (hs : Small l) (hn : n ≤ 9223372036854775807) : Sl w (some ⟨g, 0, none⟩) n l := by
  obtain ⟨a, cap, e, _, hsl⟩ := sl_of_own h hs hn
  injection e with e1 e2 e3
  rw [e1]; exact hsl
theorem sum_nil (w : World) : Calls Tryd.prog 14 #[.slice none 0 0] w fun e w' => e = .returned (.tuple #[.int .i64 0, .int .i64 0]) ∧ w = w' :=
  sum_any none 0 0 [] w ⟨rfl, fun i hi => by omega, by omega, .inl rfl⟩
theorem small_tail {l : List Int} (h : Small l) : Small l.tail := fun x hx => h x (List.mem_of_mem_tail hx)
theorem tail_sum (l : List Int) (h : 1 ≤ l.length) : (l.tail ++ [l.getD 0 0]).sum = l.sum := by
  cases l with
  | nil => simp at h
  | cons x r => simp [List.getD]; omega
theorem map_getD (l : List Int) (h : 1 ≤ l.length) : (l.map cut53).getD 0 0 = cut53 (l.getD 0 0) := by
  cases l with
  | nil => simp at h
  | cons x r => simp [List.getD]
theorem cells_tail (l : List Int) (k : Nat) : (cellsOfInts l.tail)[k]? = (cellsOfInts l)[k + 1]? := by
  cases l with
  | nil => rfl
  | cons x r => simp [cellsOfInts]
theorem step_own {P : Program} (w : World) {ops : Array Oper} {o : Oper} {a : Act} {K : Act → World → Prop} {Q : Exit → Act → World → Prop} {E : Prop} (hgd : o.guard = none) (s x : Operand) (t : TypeId)
    (ho : o.op = .call { callee := .builtin .append, args := #[s, x], argTypes := #[t, t] })
    (base : Nat) (e : TypeId) (i : TypeInfo) (z : Value) (size bytes : Nat) (ht : P.underlying t = some (.slice e)) (hi : P.info? e = some i) (hz : i.zero = some z)
    (hsize : i.size = size) (hby : i.bytes = bytes) (hzs : z.cells.size = size) (hsz : 0 < size)
    (v : Value) (n : Nat) (xs : List Value) (hs : a.eval s = v) (hown : w.ownsRow base e size v n xs)
    (ad : Addr) (m c : Nat) (news : List Value) (hx : a.eval x = .slice (some ad) m c) (hl : news.length = m * size) (hnews : ∀ j u, news[j]? = some u → w.cell? (ad.add j) = some u) (h1 : ∀ u ∈ news, u.oneCell' = true)
    (h63 : n + m ≤ maxLen) (hbytes : (n + m) * bytes ≤ 140737488355328) (hbase : base ≤ w.heap.size)
    (h : ∀ v' w', w'.ownsRow base e size v' (n + m) (xs ++ news) → w.grownBy w' v.ownBlock → (v' = .slice none 0 0 ↔ v = .slice none 0 0 ∧ m = 0) → K (a.put o.dst v') w') :
    if Region.wanted o (yielded ops a.tmps) = true then Oper.wp P o a w K Q else E := by
  rw [if_pos (by simp [Region.wanted, hgd])]
  exact wp_append_own w s x t ho base e i z size bytes ht hi hz hsize hby hzs hsz v n xs hs hown ad m c news hx hl hnews h1 h63 hbytes hbase h
theorem ownv {w : World} {B e g c k : Nat} {t : List Value} (h : w.ownsRow B e 1 (.slice (some ⟨g, 0, none⟩) (0 + k) c) (0 + k) ([] ++ t)) : w.ownsRow B e 1 (.slice (some ⟨g, 0, none⟩) k c) k t := by
  rw [Nat.zero_add, List.nil_append] at h; exact h

set_option maxHeartbeats 3200000 in
set_option maxRecDepth 100000 in
theorem lists_small (a : Option Addr) (len cap : Nat) (l : List Int) (w : World) (ht : Tab w) (h : Sl w a len l) (hlen : len ≤ 100) (hpos : 1 ≤ len) :
    Calls Tryd.prog 6 #[.slice a len cap] w fun e w' => e = .returned (.bool true) ∧ Below w.heap.size w w' := by
  obtain ⟨i0, hi, hz0, hz1, hz2⟩ := info_parts infoInt
  obtain ⟨hl1, hl2, hl3, hl4⟩ := h
  have L1 := Lib.hid hl1; clear hl1
  have L2 := Lib.hid hl2; clear hl2
  obtain ⟨blk, off, rfl, hcell⟩ : ∃ b off, a = some ⟨b, off, none⟩ ∧ ∀ i, i < len → w.cell? ⟨b, off + i, none⟩ = some (.int .i64 (l.getD i 0)) := by
    rcases hl4 with hl4 | hl4
    · omega
    · exact hl4
  have HC := Lib.hid hcell; clear hcell
  clear hl4
  go_enter Tryd.func6, Tryd.ntmps6
  go_wp2_with fail
  go_loopw [3, 19] (fun v i wr => ∃ j : Nat, j ≤ len ∧ i = .int .i64 j ∧ wr.ownsRow w.heap.size 3 1 v j (cellsOfInts ((l.map cut53).take j)) ∧ Below w.heap.size w wr) (fun _ i _ => len - (intOf i).toNat)
  case atStart => exact ⟨0, Nat.zero_le _, rfl, World.ownsRow_nil _ _ _ _, Below.refl _ _⟩
  case round =>
    obtain ⟨j, hj, rfl, hown, hb⟩ := hrel
    have HO := Lib.hid hown; clear hown
    by_cases hlt : j < len
    · have hcj := ((hb.cell (World.block_lt_of_cell? w _ (HC.out j hlt))).trans (HC.out j hlt))
      obtain ⟨hb1, hb2⟩ := L2.out j hlt
      have HT : Hid (cellsOfInts ((l.map cut53).take (j + 1)) = cellsOfInts ((l.map cut53).take j) ++ [.int .i64 (cut53 (l.getD j 0))]) := Lib.hid (by
        rw [← List.map_take, take_snocI l j (by rw [L1.out]; exact hlt), ← List.map_take]; simp [cellsOfInts])
      generalize hk : l.getD j 0 = k at *
      have HK := Lib.hid hk; clear hk
      obtain ⟨q, hq⟩ : ∃ q, k.tmod 9007199254740992 = q := ⟨_, rfl⟩
      have HQ : Hid (cut53 k = q) := hq
      go_wp2_with (at_builtin; refine wpList_append_own _ rfl _ _ 22 rfl w.heap.size 3 i0 (.int .i64 0) 1 8 Tryd.underlying22 hi hz0 hz1 hz2 rfl (by decide) _ _ _ rfl (HO.out.alloc _) ⟨wr.heap.size, 0, none⟩ 1 1 [.int .i64 q] rfl rfl ?c1 ?c2 ?c3 ?c4 ?c5 ?_)
      case c1 =>
        intro j u hj
        match j, hj with
        | 0, hj => simp at hj; subst hj; simp [Addr.add]
      case c2 => intro u hu; simp at hu; subst hu; rfl
      case c3 => unfold maxLen; omega
      case c4 => omega
      case c5 => have := hb.size; simp; omega
      intro v' w1 hown' hgrow _
      have hb' : Below w.heap.size w w1 := (hb.alloc (by have := hb.size; omega) _).grown hgrow (by have := hb.size; simp; omega) (fun k hk => (HO.out.lt k hk).1)
      have HN : Hid (w1.ownsRow w.heap.size 3 1 v' (j + 1) (cellsOfInts ((l.map cut53).take (j + 1)))) := Lib.hid (by rw [HT.out, HQ.out]; exact hown')
      clear hown' hgrow
      go_wp2
      go_roundw
      case rel => exact ⟨j + 1, by omega, by go_num, HN.out, hb'⟩
      case measure => simp [intOf]; omega
    · obtain rfl : j = len := by omega
      have HR : Hid ((l.map cut53).take j = l.map cut53) := Lib.hid (List.take_of_length_le (by simp; exact Nat.le_of_eq L1.out))
      have HO2 : Hid (wr.ownsRow w.heap.size 3 1 u3 j (cellsOfInts (l.map cut53))) := Lib.hid (by have := HO.out; rwa [HR.out] at this)
      obtain ⟨g, cp, cur, rfl, hg0, hgh, hcp, hcm, -⟩ : ∃ g cap cur, u3 = .slice (some ⟨g, 0, none⟩) j cap ∧ w.heap.size ≤ g ∧ wr.heap[g]? = some (.cells cur 3 (0, 0)) ∧ j ≤ cap ∧ cap ≤ maxLen ∧ True := by
        rcases HO2.out.2 with ⟨_, e⟩ | ⟨g, cap, cur, e, h1, h2, h3, h4, _⟩
        · omega
        · exact ⟨g, cap, cur, e, h1, h2, h3, h4, trivial⟩
      unfold maxLen at hcm
      have hgl : g < wr.heap.size := by
        rcases Nat.lt_or_ge g wr.heap.size with h1 | h1
        · exact h1
        · rw [Array.getElem?_eq_none h1] at hgh; cases hgh
      clear hgh HO
      -- the first number, and the others
      obtain ⟨s0, hs0⟩ : ∃ s0, cut53 (l.getD 0 0) = s0 := ⟨_, rfl⟩
      have hc0 : wr.cell? ⟨g, 0, none⟩ = some (.int .i64 s0) := by
        have := HO2.out.cells (g := g) rfl 0 (.int .i64 s0) (by rw [← hs0, ← map_getD l (by rw [L1.out]; omega)]; exact cellsOfInts_get _ 0 (by simp; rw [L1.out]; omega))
        simpa [Addr.add] using this
      have HS0 := Lib.hid hs0; clear hs0
      have HTl : Hid (∀ W, Below wr.heap.size wr W → ∀ k u, (cellsOfInts (l.map cut53).tail)[k]? = some u → W.cell? ((⟨g, 1, none⟩ : Addr).add k) = some u) := Lib.hid (fun W hW k u hk => by
        rw [cells_tail] at hk
        have h1 := HO2.out.cells (g := g) rfl (k + 1) u hk
        have h2 : (⟨g, 1, none⟩ : Addr).add k = (⟨g, 0, none⟩ : Addr).add (k + 1) := by
          by_cases h0 : k = 0
          · subst h0; rfl
          · simp [Addr.add, h0]; omega
        rw [h2, hW.cell (by simpa [Addr.add] using hgl)]
        exact h1)
      have HTn : Hid ((cellsOfInts (l.map cut53).tail).length = (j - 1) * 1) := Lib.hid (by rw [cellsOfInts_len]; simp; rw [L1.out])
      have HTo : Hid (∀ u ∈ cellsOfInts (l.map cut53).tail, u.oneCell' = true) := Lib.hid (fun u hu => by
        obtain ⟨y, _, rfl⟩ := List.mem_map.1 hu
        rfl)
      have hq1 : (1 : Int) ≤ (j : Int) := by omega
      have hq2 : (j : Int) ≤ (cp : Int) := by omega
      have hq3 : (0 : Int) < (j : Int) := by omega
      go_wp2_with fail
      go_cut [4] (fun tv wx => ∃ g2 c2, tv = .slice (some ⟨g2, 0, none⟩) j c2 ∧ Turned wx wr.heap.size g2 j c2 ((l.map cut53).tail ++ [s0]) ∧ Below wr.heap.size wr wx)
      case first =>
        by_cases h2 : 2 ≤ j
        · have hne : ¬ cp = 1 := by omega
          go_region_held3 (fun w' => w'.cell? ⟨g, 0, none⟩ = some (.int .i64 s0))
            (first
              | go_keep
              | (rw [hgrow1.cell_far _ (by simp; omega) (by simp [Value.ownBlock])]; assumption)
              | (rw [hgrow1.cell_far _ (by simp; omega) (by simp [Value.ownBlock])]; go_keep)
              | (rw [hgrow2.cell_far _ (by have := hgrow1.size; simp at this ⊢; omega) (by have := ((ownv hown1).lt g1 rfl).1; simp [Value.ownBlock]; omega)]; assumption)
              | (rw [hgrow2.cell_far _ (by have := hgrow1.size; simp at this ⊢; omega) (by have := ((ownv hown1).lt g1 rfl).1; simp [Value.ownBlock]; omega)]; go_keep))
            (first
              | ((refine step_append_lies _ (by rfl) _ _ _ (by rfl) wr.heap.size 3 i0 _ 1 8 Tryd.underlying22 hi hz0 hz1 hz2 rfl (by omega) (.slice none 0 0) 0 [] (by rfl) (World.ownsRow_nil _ _ _ _) ⟨g, 1, none⟩ (j - 1) (cp - 1) (cellsOfInts (l.map cut53).tail) (by rfl) HTn.out (HTl.out _ (by first | exact Below.refl _ _ | exact (Below.refl _ _).drew | exact (Below.refl _ _).alloc (Nat.le_refl _) _ | exact ((Below.refl _ _).alloc (Nat.le_refl _) _).drew)) HTo.out (by omega) (by unfold maxLen; omega) (by omega) (by simp) _ rfl ?_; intro g1 c1 w1 hown1 hgrow1 hat1 hlt1))
              | ((refine step_append_lies _ (by rfl) _ _ _ (by rfl) wr.heap.size 3 i0 _ 1 8 Tryd.underlying22 hi hz0 hz1 hz2 rfl (by omega) (.slice (some ⟨g1, 0, none⟩) (j - 1) c1) (j - 1) (cellsOfInts (l.map cut53).tail) (by rfl) (by first | exact ownv hown1 | exact (ownv hown1).alloc _ | exact ((ownv hown1).alloc _).drew) ⟨w1.heap.size, 0, none⟩ 1 1 [.int .i64 s0] (by rfl) (by rfl) (World.news_of_block (cs := #[.int .i64 s0]) (t := 3) (fr := (0, 0)) (heap_alloc_new w1 _)) (by simp [Value.oneCell']) (by omega) (by unfold maxLen; omega) (by omega) (by have := hgrow1.size; simp at this ⊢; omega) _ rfl ?_; intro g2 c2 w2 hown2 hgrow2 hat2 hlt2))
              | ((refine step_append_lies _ (by rfl) _ _ _ (by rfl) wr.heap.size 3 i0 _ 1 8 Tryd.underlying22 hi hz0 hz1 hz2 rfl (by omega) (.slice (some ⟨g1, 0, none⟩) (0 + (j - 1)) c1) (0 + (j - 1)) ([] ++ cellsOfInts (l.map cut53).tail) (by rfl) (by first | exact hown1 | exact hown1.drew) ⟨wr.heap.size, 0, none⟩ 1 1 [.int .i64 s0] (by rfl) (by rfl) (World.news_of_block (cs := #[.int .i64 s0]) (t := 3) (fr := (0, 0)) ((hgrow1.block _ (by simp) (by simp [Value.ownBlock])).trans (heap_alloc_new wr _))) (by simp [Value.oneCell']) (by omega) (by unfold maxLen; omega) (by omega) (by have := hgrow1.size; simp at this ⊢; omega) _ rfl ?_; intro g2 c2 w2 hown2 hgrow2 hat2 hlt2)))
          · have hb1 : Below wr.heap.size wr w1 := (Below.refl _ _).drew.grown hgrow1 (by simp) (by simp [Value.ownBlock])
            have hb2 : Below wr.heap.size wr w2 := (hb1.alloc hb1.size _).grown hgrow2 (by have := hb1.size; simp; omega) (fun k hk => ((ownv hown1).lt k hk).1)
            have HT := Lib.hid (turned_one (by omega) hown2)
            clear hown1 hown2 hgrow1 hgrow2 hat1 hat2
            go_wp2_with fail
            go_meet
            exact ⟨g2, c2, by first | rfl | (congr 1; omega), HT.out, hb2⟩
          · have hb1 : Below wr.heap.size wr w1 := ((Below.refl _ _).alloc (Nat.le_refl _) _).drew.grown hgrow1 (by simp) (by simp [Value.ownBlock])
            have hb2 : Below wr.heap.size wr w2 := hb1.grown hgrow2 hb1.size (fun k hk => (hown1.lt k hk).1)
            have HT := Lib.hid (turned_two (by omega) hown2)
            clear hown1 hown2 hgrow1 hgrow2 hat1 hat2
            go_wp2_with fail
            go_meet
            exact ⟨g2, c2, by first | rfl | (congr 1; omega), HT.out, hb2⟩
        · obtain rfl : j = 1 := by omega
          clear HTl HTo hq1 hq2 hq3
          have hc2 : (1 : Int) ≤ (cp : Int) := by omega
          by_cases hc1 : cp = 1
          · subst hc1
            go_region_held3 (fun w' => w'.cell? ⟨g, 0, none⟩ = some (.int .i64 s0))
              (first
                | go_keep
                | (rw [hgrow1.cell_far _ (by simp; omega) (by simp [Value.ownBlock])]; assumption)
                | (rw [hgrow1.cell_far _ (by simp; omega) (by simp [Value.ownBlock])]; go_keep)
                | (rw [hgrow2.cell_far _ (by have := hgrow1.size; simp at this ⊢; omega) (by simp [Value.ownBlock])]; assumption)
                | (rw [hgrow2.cell_far _ (by have := hgrow1.size; simp at this ⊢; omega) (by simp [Value.ownBlock])]; go_keep))
              (first
                | ((refine step_own _ (by rfl) _ _ _ (by rfl) wr.heap.size 3 i0 _ 1 8 Tryd.underlying22 hi hz0 hz1 hz2 rfl (by omega) (.slice none 0 0) 0 [] (by rfl) (World.ownsRow_nil _ _ _ _) ⟨g, 0, none⟩ 0 0 [] (by rfl) rfl (by simp) (by simp) (by unfold maxLen; omega) (by omega) (by simp) ?_; intro v1 w1 hown1 hgrow1 hiff1; obtain rfl := hiff1.2 ⟨rfl, rfl⟩))
                | ((refine step_append_lies _ (by rfl) _ _ _ (by rfl) wr.heap.size 3 i0 _ 1 8 Tryd.underlying22 hi hz0 hz1 hz2 rfl (by omega) (.slice none 0 0) 0 [] (by rfl) (World.ownsRow_nil _ _ _ _) ⟨w1.heap.size, 0, none⟩ 1 1 [.int .i64 s0] (by rfl) (by rfl) (World.news_of_block (cs := #[.int .i64 s0]) (t := 3) (fr := (0, 0)) (heap_alloc_new w1 _)) (by simp [Value.oneCell']) (by omega) (by unfold maxLen; omega) (by omega) (by have := hgrow1.size; simp at this ⊢; omega) _ rfl ?_; intro g2 c2 w2 hown2 hgrow2 hat2 hlt2))
                | ((refine step_append_lies _ (by rfl) _ _ _ (by rfl) wr.heap.size 3 i0 _ 1 8 Tryd.underlying22 hi hz0 hz1 hz2 rfl (by omega) (.slice none 0 0) 0 [] (by rfl) (World.ownsRow_nil _ _ _ _) ⟨wr.heap.size, 0, none⟩ 1 1 [.int .i64 s0] (by rfl) (by rfl) (World.news_of_block (cs := #[.int .i64 s0]) (t := 3) (fr := (0, 0)) ((hgrow1.block _ (by simp) (by simp [Value.ownBlock])).trans (heap_alloc_new wr _))) (by simp [Value.oneCell']) (by omega) (by unfold maxLen; omega) (by omega) (by have := hgrow1.size; simp at this ⊢; omega) _ rfl ?_; intro g2 c2 w2 hown2 hgrow2 hat2 hlt2)))
            · have hb1 : Below wr.heap.size wr w1 := (Below.refl _ _).drew.grown hgrow1 (by simp) (by simp [Value.ownBlock])
              have hb2 : Below wr.heap.size wr w2 := (hb1.alloc hb1.size _).grown hgrow2 (by have := hb1.size; simp; omega) (by simp [Value.ownBlock])
              have HT := Lib.hid (turned_single (t := (l.map cut53).tail) hown2 (by have := HTn.out; rw [cellsOfInts_len] at this; omega))
              clear hown1 hown2 hgrow1 hgrow2 hat2 hiff1
              go_wp2_with fail
              go_meet
              exact ⟨g2, c2, rfl, HT.out, hb2⟩
            · have hb1 : Below wr.heap.size wr w1 := ((Below.refl _ _).alloc (Nat.le_refl _) _).drew.grown hgrow1 (by simp) (by simp [Value.ownBlock])
              have hb2 : Below wr.heap.size wr w2 := hb1.grown hgrow2 hb1.size (by simp [Value.ownBlock])
              have HT := Lib.hid (turned_single (t := (l.map cut53).tail) hown2 (by have := HTn.out; rw [cellsOfInts_len] at this; omega))
              clear hown1 hown2 hgrow1 hgrow2 hat2 hiff1
              go_wp2_with fail
              go_meet
              exact ⟨g2, c2, rfl, HT.out, hb2⟩
          · have hne : ¬ cp = 1 := hc1
            clear hc1
            go_region_held3 (fun w' => w'.cell? ⟨g, 0, none⟩ = some (.int .i64 s0))
              (first
                | go_keep
                | (rw [hgrow1.cell_far _ (by simp; omega) (by simp [Value.ownBlock])]; assumption)
                | (rw [hgrow1.cell_far _ (by simp; omega) (by simp [Value.ownBlock])]; go_keep)
                | (rw [hgrow2.cell_far _ (by have := hgrow1.size; simp at this ⊢; omega) (by simp [Value.ownBlock])]; assumption)
                | (rw [hgrow2.cell_far _ (by have := hgrow1.size; simp at this ⊢; omega) (by simp [Value.ownBlock])]; go_keep))
              (first
                | ((refine step_own _ (by rfl) _ _ _ (by rfl) wr.heap.size 3 i0 _ 1 8 Tryd.underlying22 hi hz0 hz1 hz2 rfl (by omega) (.slice none 0 0) 0 [] (by rfl) (World.ownsRow_nil _ _ _ _) ⟨g, 1, none⟩ 0 (cp - 1) [] (by rfl) rfl (by simp) (by simp) (by unfold maxLen; omega) (by omega) (by simp) ?_; intro v1 w1 hown1 hgrow1 hiff1; obtain rfl := hiff1.2 ⟨rfl, rfl⟩))
                | ((refine step_append_lies _ (by rfl) _ _ _ (by rfl) wr.heap.size 3 i0 _ 1 8 Tryd.underlying22 hi hz0 hz1 hz2 rfl (by omega) (.slice none 0 0) 0 [] (by rfl) (World.ownsRow_nil _ _ _ _) ⟨w1.heap.size, 0, none⟩ 1 1 [.int .i64 s0] (by rfl) (by rfl) (World.news_of_block (cs := #[.int .i64 s0]) (t := 3) (fr := (0, 0)) (heap_alloc_new w1 _)) (by simp [Value.oneCell']) (by omega) (by unfold maxLen; omega) (by omega) (by have := hgrow1.size; simp at this ⊢; omega) _ rfl ?_; intro g2 c2 w2 hown2 hgrow2 hat2 hlt2))
                | ((refine step_append_lies _ (by rfl) _ _ _ (by rfl) wr.heap.size 3 i0 _ 1 8 Tryd.underlying22 hi hz0 hz1 hz2 rfl (by omega) (.slice none 0 0) 0 [] (by rfl) (World.ownsRow_nil _ _ _ _) ⟨wr.heap.size, 0, none⟩ 1 1 [.int .i64 s0] (by rfl) (by rfl) (World.news_of_block (cs := #[.int .i64 s0]) (t := 3) (fr := (0, 0)) ((hgrow1.block _ (by simp) (by simp [Value.ownBlock])).trans (heap_alloc_new wr _))) (by simp [Value.oneCell']) (by omega) (by unfold maxLen; omega) (by omega) (by have := hgrow1.size; simp at this ⊢; omega) _ rfl ?_; intro g2 c2 w2 hown2 hgrow2 hat2 hlt2)))
            · have hb1 : Below wr.heap.size wr w1 := (Below.refl _ _).drew.grown hgrow1 (by simp) (by simp [Value.ownBlock])
              have hb2 : Below wr.heap.size wr w2 := (hb1.alloc hb1.size _).grown hgrow2 (by have := hb1.size; simp; omega) (by simp [Value.ownBlock])
              have HT := Lib.hid (turned_single (t := (l.map cut53).tail) hown2 (by have := HTn.out; rw [cellsOfInts_len] at this; omega))
              clear hown1 hown2 hgrow1 hgrow2 hat2 hiff1
              go_wp2_with fail
              go_meet
              exact ⟨g2, c2, rfl, HT.out, hb2⟩
            · have hb1 : Below wr.heap.size wr w1 := ((Below.refl _ _).alloc (Nat.le_refl _) _).drew.grown hgrow1 (by simp) (by simp [Value.ownBlock])
              have hb2 : Below wr.heap.size wr w2 := hb1.grown hgrow2 hb1.size (by simp [Value.ownBlock])
              have HT := Lib.hid (turned_single (t := (l.map cut53).tail) hown2 (by have := HTn.out; rw [cellsOfInts_len] at this; omega))
              clear hown1 hown2 hgrow1 hgrow2 hat2 hiff1
              go_wp2_with fail
              go_meet
              exact ⟨g2, c2, rfl, HT.out, hb2⟩
      case rest =>
        obtain ⟨g2, c2, rfl, hT, hB⟩ := hcut
        have hs1 : Small (l.map cut53) := small_map l
        have hs2 : Small ((l.map cut53).tail ++ [s0]) := small_append (small_tail hs1) (fun x hx => by
          rw [List.mem_singleton] at hx; rw [hx, ← HS0.out]; exact cut53_small _)
        have HA : Hid (Sl wc (some ⟨g, 0, none⟩) j (l.map cut53)) := Lib.hid ((turned_sl HO2.out hs1 hl3).on hB)
        have HB : Hid (Sl wc (some ⟨g2, 0, none⟩) j ((l.map cut53).tail ++ [s0])) := Lib.hid (turned_sl hT hs2 hl3)
        have hsum : ((l.map cut53).tail ++ [s0]).sum = (l.map cut53).sum := by
          have := tail_sum (l.map cut53) (by simp; rw [L1.out]; omega)
          rwa [map_getD l (by rw [L1.out]; omega), HS0.out] at this
        have VA := Lib.hid (sumV_small hs1 (by simp; rw [L1.out]; omega))
        have VB := Lib.hid (sumV_small hs2 (by simp; rw [L1.out]; omega))
        rw [hsum] at VB
        clear hs1 hs2 hsum hT
        generalize (l.map cut53).sum = q at *
        have hall : Below w.heap.size w wc := hb.trans (hB.mono hb.size)
        go_wp2_with fail
        refine (sum_any _ _ _ _ _ HA.out).mono ?_
        rintro _ _ ⟨rfl, rfl⟩
        rw [VA.out]
        go_wp2_with fail
        refine (sum_any _ _ _ _ _ HB.out).mono ?_
        rintro _ _ ⟨rfl, rfl⟩
        rw [VB.out]
        go_wp2_with fail
        refine (sum_nil _).mono ?_
        rintro _ _ ⟨rfl, rfl⟩
        go_wp2_with fail
        refine (awake_yes _ (ht.on hall)).mono ?_
        rintro _ w5 ⟨rfl, hb5⟩
        go_wp2
        go_ret
        exact ⟨rfl, below_step hall hb5⟩

set_option maxHeartbeats 1600000 in
set_option maxRecDepth 100000 in
theorem lists_none (a : Option Addr) (cap : Nat) (w : World) (ht : Tab w) :
    Calls Tryd.prog 6 #[.slice a 0 cap] w fun e w' => e = .returned (.bool true) ∧ Below w.heap.size w w' := by
  go_enter Tryd.func6, Tryd.ntmps6
  go_wp2_with fail
  go_loop [3, 19] (fun s i => s = .slice none 0 0 ∧ i = .int .i64 0) (fun _ _ => 0)
  case atStart => exact ⟨rfl, rfl⟩
  case round =>
    obtain ⟨rfl, rfl⟩ := hrel
    go_wp2_with fail
    refine (sum_nil _).mono ?_
    rintro _ _ ⟨rfl, rfl⟩
    go_wp2_with fail
    refine (sum_nil _).mono ?_
    rintro _ _ ⟨rfl, rfl⟩
    go_wp2_with fail
    refine (sum_nil _).mono ?_
    rintro _ _ ⟨rfl, rfl⟩
    go_wp2_with fail
    refine (awake_yes _ ht).mono ?_
    rintro _ w5 ⟨rfl, hb5⟩
    go_wp2
    go_ret
    exact ⟨rfl, hb5⟩
set_option maxHeartbeats 800000 in
set_option maxRecDepth 100000 in
theorem lists_great (a : Option Addr) (len cap : Nat) (w : World) (ht : Tab w) (h : 100 < len) :
    Calls Tryd.prog 6 #[.slice a len cap] w fun e w' => e = .returned (.bool true) ∧ Below w.heap.size w w' := by
  go_enter Tryd.func6, Tryd.ntmps6
  go_wp2_with fail
  refine (awake_yes _ ht).mono ?_
  rintro _ w2 ⟨rfl, hb2⟩
  go_wp2
  go_ret
  exact ⟨rfl, hb2⟩
theorem lists_walk (a : Option Addr) (len cap : Nat) (zs : List Int) (w : World) (ht : Tab w) (hr : IsRow .i64 w a len cap zs) :
    Calls Tryd.prog 6 #[.slice a len cap] w fun e w' => e = .returned (.bool true) ∧ Below w.heap.size w w' := by
  by_cases h : 100 < len
  · exact lists_great a len cap w ht h
  · by_cases h0 : len = 0
    · subst h0; exact lists_none a cap w ht
    · exact lists_small a len cap _ w ht (sl_of_row hr) (by omega) (by omega)
end Go.Proofs.YtplbebfpahgmoaaDoor
