/-
  The priorities of orders, each once, rising: package garnish.
-/
import Derived.Test.YtmmgejgmlhhfdaaShelf
import Derived.Test.YtmmgejgmlhhfdaaGaKit
import Derived.Test.YtmmgejgmlhhfdaaGaSortMath
import Derived.Test.YtmmgejgmlhhfdaaBoxKit
import Derived.Test.YtmmgejgmlhhfdaaRowKit
import Derived.Lib.OwnBridge
import Derived.Sort.OwnSortedInts
namespace Go.Proofs.Ytmmgejgmlhhfdaa
open Go.RowKit

/-- A slice of the priorities of orders, in a block that is new. -/
structure Prios (l : List PGa.Ord) (w : World) (P : Option Addr) (m c : Nat) (ps : List Int) (w' : World) : Prop where
  sl : Sl w' P m ps
  up : ∀ i j, i < j → j < m → ps.getD i 0 < ps.getD j 0
  got : ∀ i, i < l.length → ∃ j, j < m ∧ ps.getD j 0 = PGa.pr l i
  from' : ∀ j, j < m → ∃ i, i < l.length ∧ PGa.pr l i = ps.getD j 0
  few : m ≤ l.length
  below : Below w.heap.size w w'
  fresh : ∀ ad, P = some ad → w.heap.size ≤ ad.block
def PrioR (l : List PGa.Ord) (w : World) (e : Ending) (w' : World) : Prop := ∃ P m c ps, e = .returned (.slice P m c) ∧ Prios l w P m c ps w'
theorem getD_mem {l : List Int} {j : Nat} (h : j < l.length) : l.getD j 0 ∈ l := by simp [List.getD, h]
/-- What is behind Sort and Compact. -/
theorem prios_of {l : List PGa.Ord} {w w2 w3 : World} {H n k q cap : Nat} {os : Array Obj} {zs : List Int} (hn : n ≤ 8) (hz : zs.length = n) (hl : l.length = n) (hzs : ∀ i, i < n → zs.getD i 0 = PGa.pr l i) (hw : w.heap.size ≤ H) (hB : Below w.heap.size w w2) (hH : H < w2.heap.size)
    (h0 : Go.Sort.Holds (Value.int .i64) w2 H 0 zs.toArray) (hi : In64 zs)
    (e3 : w3 = Go.Sort.putRow (Value.int .i64) (Go.Sort.ahead (Go.Sort.grow (Go.Sort.putRow (Value.int .i64) (Go.Sort.ahead w2 k) H 0 (zs.mergeSort fun x y => decide (x ≤ y)).toArray) os) q) H 0 (Lib.compact (zs.mergeSort fun x y => decide (x ≤ y)) ++ List.replicate ((zs.mergeSort fun x y => decide (x ≤ y)).length - (Lib.compact (zs.mergeSort fun x y => decide (x ≤ y))).length) 0).toArray) :
    Prios l w (some ⟨H, 0, none⟩) (Lib.compact (zs.mergeSort fun x y => decide (x ≤ y))).length cap (Lib.compact (zs.mergeSort fun x y => decide (x ≤ y))) w3 := by
  obtain ⟨h1, h2⟩ := compact_sorted zs
  have hls : (zs.mergeSort fun x y => decide (x ≤ y)).length = zs.length := List.length_mergeSort zs
  have hle := Lib.compact_length_le (zs.mergeSort fun x y => decide (x ≤ y))
  obtain ⟨ss, hss⟩ : ∃ ss, (zs.mergeSort fun x y => decide (x ≤ y)) = ss := ⟨_, rfl⟩
  rw [hss] at h1 h2 hls hle e3 ⊢
  obtain ⟨ps, hps⟩ : ∃ ps, Lib.compact ss = ps := ⟨_, rfl⟩
  rw [hps] at h1 h2 hle e3 ⊢
  have hH1 : Go.Sort.Holds (Value.int .i64) (Go.Sort.grow (Go.Sort.putRow (Value.int .i64) (Go.Sort.ahead w2 k) H 0 ss.toArray) os) H 0 ss.toArray :=
    Go.Sort.holds_grow _ _ os H 0 _ (by simpa [Go.Sort.putRow, Go.Sort.mapBlock, Go.Sort.ahead] using hH) (Go.Sort.holds_putRow _ _ H 0 _ _ (Go.Sort.holds_ahead _ w2 k H 0 _ h0) (by simp [hls]))
  have hH3 : Go.Sort.Holds (Value.int .i64) w3 H 0 (ps ++ List.replicate (ss.length - ps.length) 0).toArray := by
    rw [e3]
    exact Go.Sort.holds_putRow _ _ H 0 _ _ (Go.Sort.holds_ahead _ _ q H 0 _ hH1) (by simp; omega)
  have hin : ∀ x, x ∈ ps → -9223372036854775808 ≤ x ∧ x ≤ 9223372036854775807 := fun x hx => by
    obtain ⟨j, hj, e⟩ := List.getElem_of_mem ((h2 x).1 hx)
    have := hi j hj
    simp [List.getD, hj] at this
    rw [← e]; exact this
  refine ⟨⟨rfl, fun i h => hin _ (getD_mem h), by omega, ?_⟩, fun i j hij hj => ?_, fun i hil => ?_, fun j hj => ?_, by omega, ?_, fun ad e => by cases e; exact hw⟩
  · refine .inr ⟨H, 0, rfl, fun i hi' => ?_⟩
    have := (hH3 i (by simp; omega)).1
    rw [this]
    simp [List.getD, getElem!_pos, hi', List.getElem_append_left hi', show i < ps.length + (ss.length - ps.length) by omega]
  · have := List.pairwise_iff_getElem.1 h1 i j (by omega) hj hij
    simpa [List.getD, show i < ps.length by omega, hj] using this
  · have hx : PGa.pr l i ∈ zs := by rw [← hzs i (by omega)]; exact getD_mem (by omega)
    obtain ⟨j, hj, e⟩ := List.getElem_of_mem ((h2 _).2 hx)
    exact ⟨j, hj, by simp [List.getD, hj, e]⟩
  · obtain ⟨i, hi', e⟩ := List.getElem_of_mem ((h2 _).1 (getD_mem hj))
    exact ⟨i, by omega, by rw [← hzs i (by omega), ← e]; simp [List.getD, hi']⟩
  · rw [e3]
    have b1 : Below w.heap.size w (Go.Sort.grow (Go.Sort.putRow (Value.int .i64) (Go.Sort.ahead w2 k) H 0 ss.toArray) os) := hB.grown (Go.grownBy_sortedI _) hB.size (fun j hj => by cases hj; exact hw)
    exact Lib.below_putRow b1 hw

set_option maxHeartbeats 3200000 in
set_option maxRecDepth 100000 in
theorem prio_any {A : Option Addr} {n cap : Nat} {l : List PGa.Ord} {w : World} (h : SlO w A n l) (hn : n ≤ 8) :
    Calls Try.prog 17 #[.slice A n cap] w (PrioR l w) := by
  have H := Lib.hid h
  have hl := Lib.hid h.len
  have hmk := make_row n (by omega)
  have HI : Hid (∀ i, i < n → -9223372036854775808 ≤ PGa.pr l i ∧ PGa.pr l i ≤ 9223372036854775807) := Lib.hid (fun i hi => by
    have hil : i < l.length := by rw [h.len]; exact hi
    have := (h.2.1 i hil).2.1
    unfold PGa.pr
    simpa [List.getD, hil] using this)
  clear h
  obtain ⟨Q, hQ⟩ : ∃ Q, w.heap.size = Q := ⟨_, rfl⟩
  have HQ := Lib.hid hQ
  go_enter Try.func17, Try.ntmps17
  go_upto_region 2 with fail
  have R4 : Hid (Rw (w.alloc (.cells (madeCells #[.int .i64 0] n) 3)) Q n (List.replicate n 0)) := Lib.hid (by rw [← hQ]; exact Rw.of_row (made_row w _ n rfl (by omega)) List.length_replicate)
  have B4 : Hid (Below w.heap.size w (w.alloc (.cells (madeCells #[.int .i64 0] n) 3))) := Lib.hid ((Below.refl _ _).alloc (Nat.le_refl _) _)
  have S4 : Hid (Q < (w.alloc (.cells (madeCells #[.int .i64 0] n) 3)).heap.size) := Lib.hid (by simp [hQ])
  generalize w.alloc (.cells (madeCells #[.int .i64 0] n) 3) = w4 at *
  clear hmk hQ
  go_wp2_with fail
  go_loopw [11] (fun i wr => ∃ (k : Nat) (q : List Int), k ≤ n ∧ i = .int .i64 k ∧ Hid (Rw wr Q n q) ∧ Hid (∀ t, t < k → q.getD t 0 = PGa.pr l t) ∧ Hid (Q < wr.heap.size) ∧ Hid (Below w.heap.size w wr)) (fun i _ => n - (intOf i).toNat)
  case atStart => exact ⟨0, _, Nat.zero_le _, rfl, R4, (show Hid _ from fun t ht => by omega), S4, B4⟩
  case round =>
    clear R4 B4 S4
    obtain ⟨k, q, hk, rfl, HR, HP, HS, HW⟩ := hrel
    by_cases hlt : k < n
    · obtain ⟨b, off, rfl, hc⟩ := (H.out.on HW.out).cells hlt
      have hkl : k < l.length := by rw [hl.out]; exact hlt
      obtain ⟨d0, d1, d2, d3⟩ := hc k hkl
      obtain ⟨o, ho⟩ : ∃ o, l[k] = o := ⟨_, rfl⟩
      rw [ho] at d0 d1 d2 d3
      have HPO : Hid (PGa.pr l k = o.p) := Lib.hid (by unfold PGa.pr; rw [← ho]; simp [List.getD, hkl])
      have i1 : (0 : Int) ≤ (k : Int) := by omega
      have i2 : (k : Int) < (n : Int) := by omega
      clear hc ho
      obtain ⟨oc, op, ocl, oba⟩ := o
      go_upto_region 5 with fail
      have b6 : Below wr.heap.size wr (wr.alloc (.cells #[.int .i64 oc, .int .i64 op, .int .i64 ocl, .int .i64 oba] 35)) := (Below.refl _ _).alloc (Nat.le_refl _) _
      have XA6 := Lib.hid (Box.new wr 35 [.int .i64 oc, .int .i64 op, .int .i64 ocl, .int .i64 oba])
      have R6 := Lib.hid (HR.out.on b6); have B6 := Lib.hid (below_step HW.out b6); have S6 := Lib.hid (Nat.lt_of_lt_of_le HS.out b6.size)
      obtain ⟨D, hD⟩ : ∃ D, wr.heap.size = D := ⟨_, rfl⟩
      rw [hD] at XA6 ⊢
      generalize wr.alloc (.cells [.int .i64 oc, .int .i64 op, .int .i64 ocl, .int .i64 oba].toArray 35) = w6 at *
      clear b6 d0 d1 d2 d3 hD
      have a1 := XA6.out.c 1 rfl
      have c1 := (R6.out.2 k hlt).1; have c2 := (R6.out.2 k hlt).2
      go_upto_region 6 with fail
      have R7 : Hid (Rw (w6.setCell ⟨Q, k, none⟩ (.int .i64 op)) Q n (q.set k op)) := Lib.hid (R6.out.set hlt op)
      have B7 : Hid (Below w.heap.size w (w6.setCell ⟨Q, k, none⟩ (.int .i64 op))) := Lib.hid (B6.out.setCell (by rw [HQ.out]; exact Nat.le_refl _) _)
      have S7 : Hid (Q < (w6.setCell ⟨Q, k, none⟩ (.int .i64 op)).heap.size) := Lib.hid (by simp only [World.size_setCell]; exact S6.out)
      have P7 : Hid (∀ t, t < k + 1 → (q.set k op).getD t 0 = PGa.pr l t) := Lib.hid (fun t ht => by
        rw [set_get R6.out.1 hlt]
        by_cases e : t = k
        · subst e; rw [if_pos rfl, HPO.out]
        · rw [if_neg e, HP.out t (by omega)])
      clear a1 c1 c2
      go_wp2_with fail
      exact ⟨⟨k + 1, _, by omega, by congr 1, R7, P7, S7, B7⟩, by simp [intOf]; omega⟩
    · obtain rfl : k = n := by omega
      have hq := HR.out.1
      have hi : In64 q := fun i h => by rw [HP.out i (by omega)]; exact HI.out i (by omega)
      have hH : Go.Sort.Holds (Value.int .i64) wr Q 0 q.toArray := fun j hj => by
        have hj' : j < k := by simpa [hq] using hj
        have := HR.out.2 j hj'
        rw [Nat.zero_add]
        refine ⟨?_, this.2⟩
        rw [this.1]
        simp [List.getD, getElem!_pos, show j < q.length by omega]
      have CS : Hid (Calls Try.prog 26 #[.slice (some ⟨Q, 0, none⟩) k k] wr fun e w' => e = .returned (.tuple #[]) ∧ ∃ n os, w' = Go.Sort.grow (Go.Sort.putRow (Value.int .i64) (Go.Sort.ahead wr n) Q 0 (q.mergeSort fun x y => decide (x ≤ y)).toArray) os) := Lib.hid (by
        have := Try.slices_Sort_int Q 0 k q wr hH HS.out (by omega)
        rw [hq] at this
        exact this)
      have hls : (q.mergeSort fun x y => decide (x ≤ y)).length = k := by rw [List.length_mergeSort, hq]
      have CC : Hid (∀ n os, Calls Try.prog 27 #[.slice (some ⟨Q, 0, none⟩) k k] (Go.Sort.grow (Go.Sort.putRow (Value.int .i64) (Go.Sort.ahead wr n) Q 0 (q.mergeSort fun x y => decide (x ≤ y)).toArray) os) (PrioR l w)) := Lib.hid (fun n os => by
        have hH1 : Go.Sort.Holds (Value.int .i64) (Go.Sort.grow (Go.Sort.putRow (Value.int .i64) (Go.Sort.ahead wr n) Q 0 (q.mergeSort fun x y => decide (x ≤ y)).toArray) os) Q 0 (q.mergeSort fun x y => decide (x ≤ y)).toArray :=
          Go.Sort.holds_grow _ _ os Q 0 _ (by simpa [Go.Sort.putRow, Go.Sort.mapBlock, Go.Sort.ahead] using HS.out) (Go.Sort.holds_putRow _ _ Q 0 _ _ (Go.Sort.holds_ahead _ wr n Q 0 _ hH) (by simp))
        have := Try.slices_Compact_int Q 0 k _ _ hH1 (by omega) (by omega)
        rw [hls] at this
        refine this.mono fun e w3 ⟨he, qq, hw3⟩ => ⟨_, _, _, Lib.compact (q.mergeSort fun x y => decide (x ≤ y)), he, ?_⟩
        exact prios_of hn hq (by rw [hl.out]) (fun i hi' => HP.out i hi') (by rw [HQ.out]; exact Nat.le_refl _) HW.out HS.out hH hi (by rw [hls]; exact hw3))
      clear hH hi hls hq
      go_wp2_with fail
      refine CS.out.mono ?_
      rintro _ w5 ⟨rfl, n5, os5, rfl⟩
      go_wp2_with fail
      refine (CC.out _ _).mono ?_
      rintro _ w6 ⟨P, m, c, ps, rfl, hP⟩
      have HPR := Lib.hid hP
      clear hP
      go_wp2_with fail
      go_ret
      exact ⟨P, m, c, ps, rfl, HPR.out⟩
end Go.Proofs.Ytmmgejgmlhhfdaa
