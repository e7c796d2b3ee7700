/-
  The places of a row of remainders, the greatest first: plain facts of the order, and what the comparison answers in every world that the sort passes through.
-/
import Derived.Test.YtmmgejgmlhhfdaaSplitMath
import Derived.Test.YtmmgejgmlhhfdaaStable
import Derived.Test.YtmmgejgmlhhfdaaRef02Mul
namespace PSplit
open Go.Sort PSym

variable {n : Nat}
/-- Which place is ahead, of those below n + 1. -/
def ltP (r : Nat → Nat) (n : Nat) (x y : Fin (n + 1)) : Bool := before r x.val y.val
theorem ltP_swo (r : Nat → Nat) (n : Nat) : SWO (ltP r n) := by
  refine ⟨fun x => before_irrefl r x.val, fun x y z h1 h2 => before_trans h1 h2, fun x y z h1 h2 => ?_⟩
  simp only [ltP, before, Bool.or_eq_false_iff, Bool.and_eq_false_iff, decide_eq_false_iff_not] at *
  omega
/-- The places themselves. -/
def rowP (n : Nat) : Array (Fin (n + 1)) := Array.ofFn (fun i : Fin (n + 1) => i)
theorem rowP_size (n : Nat) : (rowP n).size = n + 1 := by simp [rowP]
theorem rowP_at {t : Nat} (h : t < n + 1) : at' (rowP n) t = ⟨t, h⟩ := by
  unfold at' rowP
  rw [getElem!_pos _ _ (by simpa using h)]
  simp
theorem rowP_nodup (n : Nat) : (rowP n).toList.Nodup := by
  rw [List.nodup_iff_pairwise_ne, List.pairwise_iff_getElem]
  intro i j hi hj hij e
  simp only [rowP, Array.getElem_toList, Array.getElem_ofFn, Fin.mk.injEq] at e
  omega
/-- A rising row of numbers below its length is 0, 1, .. -/
theorem rising {f : Nat → Nat} {N : Nat} (hr : ∀ s t, s < t → t < N → f s < f t) (hb : ∀ t, t < N → f t < N) : ∀ t, t < N → f t = t := by
  have lo : ∀ t, t < N → t ≤ f t := by
    intro t
    induction t with
    | zero => intro _; exact Nat.zero_le _
    | succ t ih => intro h; have := ih (by omega); have := hr t (t + 1) (by omega) h; omega
  have hi : ∀ k t, t < N → N - 1 - t = k → f t + k ≤ N - 1 := by
    intro k
    induction k with
    | zero => intro t h _; have := hb t h; omega
    | succ k ih => intro t h e; have := ih (t + 1) (by omega) (by omega); have := hr t (t + 1) (by omega) (by omega); omega
  intro t h
  have h1 := lo t h
  have h2 := hi (N - 1 - t) t h rfl
  omega
/-- Of the sorted row each place is of its own rank. -/
theorem sorted_rank {r : Nat → Nat} {d : Array (Fin (n + 1))} (hp : PermIn 0 (n + 1) (rowP n) d) (hs : SortedIn (ltP r n) 0 (n + 1) d) : ∀ t, t < n + 1 → rank r (n + 1) (at' d t).val = t := by
  have hsz : d.size = n + 1 := by rw [hp.1, rowP_size]
  have hnd : d.toList.Nodup := by
    have h := hp.2.2
    rw [Array.extract_eq_self_of_le (by omega), Array.extract_eq_self_of_le (by rw [rowP_size]; exact Nat.le_refl _)] at h
    exact h.nodup_iff.2 (rowP_nodup n)
  have hne : ∀ s t, s < t → t < n + 1 → at' d s ≠ at' d t := by
    intro s t h1 h2 e
    rw [List.nodup_iff_pairwise_ne, List.pairwise_iff_getElem] at hnd
    have := hnd s t (by simp; omega) (by simp; omega) h1
    unfold at' at e
    rw [getElem!_pos _ _ (by omega), getElem!_pos _ _ (by omega)] at e
    exact this e
  refine rising ?_ (fun t _ => rank_bound (at' d t).isLt)
  intro s t h1 h2
  refine rank_lt (at' d s).isLt ?_
  have h3 : before r (at' d t).val (at' d s).val = false := hs s t (Nat.zero_le _) h1 h2
  rcases before_total (r := r) (i := (at' d s).val) (j := (at' d t).val) (fun e => hne s t h1 h2 (Fin.ext e)) with h | h
  · exact h
  · rw [h] at h3; cases h3
/-- What the comparison answers. -/
def cfP (r : Nat → Nat) (n : Nat) (x y : Fin (n + 1)) : Int := Go.Lib.compareInt ((r y.val : Nat) : Int) ((r x.val : Nat) : Int)
theorem cfP_lt (r : Nat → Nat) (x y : Fin (n + 1)) (h : x.val < y.val) : Go.Proofs.ltOf (cfP r n) y x = ltP r n y x := by
  unfold Go.Proofs.ltOf cfP ltP before Go.Lib.compareInt
  have e : decide (y.val < x.val) = false := decide_eq_false (by omega)
  rw [e, Bool.false_and, Bool.or_false]
  refine decide_eq_decide.2 ?_
  (repeat' split) <;> omega
end PSplit
namespace Go.Proofs.Ytmmgejgmlhhfdaa
open Go.RowKit Go.Sort Go.Lib PSym

/-- A world of the sort's is, below its row, as it was. -/
theorem sortWorld_below {α : Type} [Inhabited α] (enc : α → Value) (w0 : World) (blk off B m : Nat) (d : Array α) (os : Array Obj) (h : B ≤ blk) (hblk : blk < w0.heap.size) : Below B w0 (sortWorld enc w0 blk off m d os) := by
  refine ⟨rfl, rfl, rfl, ?_, fun k hk => ?_⟩
  · exact (show SW enc w0 blk off d _ from ⟨m, os, rfl⟩).le
  · unfold sortWorld
    rw [heap_grow_old _ _ (by rw [size_putRow]; show k < w0.heap.size; omega)]
    unfold putRow mapBlock
    show (w0.heap.modify blk _)[k]? = _
    rw [Array.getElem?_modify, if_neg (by omega)]

set_option maxHeartbeats 1600000 in
/-- The comparison of greatestFirst. -/
theorem cmp_first (b off bx cap N : Nat) (r : Nat → Nat) (x y : Nat) (w : World) (hx : x < N) (hy : y < N)
    (hbx : w.cell? ⟨bx, 0, none⟩ = some (.slice (some ⟨b, off, none⟩) N cap)) (hc : ∀ i, i < N → w.cell? ⟨b, off + i, none⟩ = some (.int .i64 ((r i : Nat) : Int))) :
    Calls Try.prog 67 #[.int .i64 x, .int .i64 y, .pointer (some ⟨bx, 0, none⟩)] w fun e w' => e = .returned (.int .i64 (compareInt ((r y : Nat) : Int) ((r x : Nat) : Int))) ∧ ∃ q, w' = w.drewN q := by
  have c1 := hc x hx
  have c2 := hc y hy
  obtain ⟨u, hu⟩ : ∃ u : Int, u = ((r x : Nat) : Int) := ⟨_, rfl⟩
  obtain ⟨v, hv⟩ : ∃ u : Int, u = ((r y : Nat) : Int) := ⟨_, rfl⟩
  rw [← hu] at c1 ⊢; rw [← hv] at c2 ⊢
  have x1 : (x : Int) < (N : Int) := by omega
  have y1 : (y : Int) < (N : Int) := by omega
  clear hc hu hv
  go_enter Try.func67, Try.ntmps67
  go_wp2_with fail
  go_quiet (first | (go_at_call 68; refine Calls.quiet_of_same (Try.cmp_Compare_int v u _)))
  go_wp2_with fail
  go_ret
  exact ⟨rfl, _, rfl⟩
end Go.Proofs.Ytmmgejgmlhhfdaa
