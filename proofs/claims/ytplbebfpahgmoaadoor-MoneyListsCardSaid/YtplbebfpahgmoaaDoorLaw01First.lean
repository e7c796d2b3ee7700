/-
  MoneyFirst: the sum of two lists, one behind the other, is the sum of both sums (at most 50 numbers below 2^53 each).
-/
import Derived.Test.YtplbebfpahgmoaaDoorLaw01Awake
import Derived.Test.YtplbebfpahgmoaaDoorLaw01Little
import Derived.Test.YtplbebfpahgmoaaDoorSlRow
namespace Go.Proofs.YtplbebfpahgmoaaDoor
open Go.RowKit

theorem small_append {a b : List Int} (ha : Small a) (hb : Small b) : Small (a ++ b) := fun x hx => by
  rcases List.mem_append.1 hx with h | h
  · exact ha x h
  · exact hb x h
theorem sumV_small {l : List Int} (hs : Small l) (hl : l.length ≤ 100) : sumV l = .tuple #[.int .i64 l.sum, .int .i64 0] := by
  have := sum_small l 0 100 hs hl (by omega) (by omega)
  rw [Int.zero_add] at this
  exact sumV_some this

/-- '[]int{}': an empty row of the call's own. -/
theorem own_empty (w : World) : (w.alloc (.cells #[] 3)).ownsRow w.heap.size 3 1 (.slice (some ⟨w.heap.size, 0, none⟩) 0 0) 0 (cellsOfInts []) :=
  ⟨rfl, .inr ⟨w.heap.size, 0, #[], rfl, Nat.le_refl _, heap_alloc_new w _, Nat.le_refl _, Nat.zero_le _, rfl, rfl⟩⟩
theorem below_empty (w : World) : Below w.heap.size w (w.alloc (.cells #[] 3)) := (Below.refl _ _).alloc (Nat.le_refl _) _

set_option maxHeartbeats 3200000 in
set_option maxRecDepth 100000 in
theorem first_small (a : Option Addr) (la ca : Nat) (xs : List Int) (b : Option Addr) (lb cb : Nat) (ys : List Int) (w : World) (ht : Tab w) (hx : Sl w a la xs) (hy : Sl w b lb ys) (h1 : la ≤ 50) (h2 : lb ≤ 50) :
    Calls Tryd.prog 8 #[.slice a la ca, .slice b lb cb] w fun e w' => e = .returned (.bool true) ∧ Below w.heap.size w w' := by
  have hxl : (xs.map cut53).length ≤ 50 := by have := hx.1; simp; omega
  have hyl : (ys.map cut53).length ≤ 50 := by have := hy.1; simp; omega
  have sx := sum_bound _ 50 (small_map xs) hxl
  have sy := sum_bound _ 50 (small_map ys) hyl
  have VX := Lib.hid (sumV_small (small_map xs) (by omega))
  have VY := Lib.hid (sumV_small (small_map ys) (by omega))
  have VZ := Lib.hid (sumV_small (small_append (small_map xs) (small_map ys)) (by rw [List.length_append]; omega))
  have HZ : Hid ((xs.map cut53 ++ ys.map cut53).sum = (xs.map cut53).sum + (ys.map cut53).sum) := Lib.hid List.sum_append
  have HX := Lib.hid hx; have HY := Lib.hid hy
  clear hx hy hxl hyl
  go_enter Tryd.func8, Tryd.ntmps8
  go_wp2_with fail
  refine (little_any a la ca xs _ HX.out (by omega)).mono ?_
  rintro _ w1 ⟨v, rfl, hv, hb1⟩
  obtain ⟨ax, cx, rfl, hcx, hsx⟩ := sl_of_own hv (small_map xs) (by omega)
  clear hv
  have HCX := Lib.hid hcx; have HSX := Lib.hid hsx; clear hcx hsx
  go_wp2_with fail
  refine (little_any b lb cb ys _ (HY.out.on hb1) (by omega)).mono ?_
  rintro _ w2 ⟨v, rfl, hv, hb2⟩
  obtain ⟨ay, cy, rfl, hcy, hsy⟩ := sl_of_own hv (small_map ys) (by omega)
  clear hv
  have HCY := Lib.hid hcy; have HSY := Lib.hid hsy; clear hcy hsy
  go_wp2_with fail
  refine (sum_any ax la cx _ _ (HSX.out.on hb2)).mono ?_
  rintro _ _ ⟨rfl, rfl⟩
  rw [VX.out]
  go_wp2_with fail
  refine (sum_any ay lb cy _ _ HSY.out).mono ?_
  rintro _ _ ⟨rfl, rfl⟩
  rw [VY.out]
  generalize hsx' : (xs.map cut53).sum = p at *
  generalize hsy' : (ys.map cut53).sum = q at *
  have HP := Lib.hid hsx'; have HQ := Lib.hid hsy'; clear hsx' hsy'
  obtain ⟨sx1, sx2⟩ := sx
  obtain ⟨sy1, sy2⟩ := sy
  go_wp2_with fail
  refine (add_yes _ _ _ (by omega) (by unfold Adds; omega)).mono ?_
  rintro _ _ ⟨rfl, rfl⟩
  go_wp2_with (at_builtin; refine append_sl rfl _ _ rfl w2.heap.size _ 0 [] rfl (own_empty w2) ax la cx _ rfl HCX.out ((HSX.out.on hb2).on (below_empty w2)) (by omega) (by simp) ?_)
  intro v1 w3 hv1 hg1
  have hb3 : Below w2.heap.size w2 w3 := (below_empty w2).grown hg1 (by simp) (fun k hk => ((own_empty w2).lt k hk).1)
  have HV1 := Lib.hid hv1; clear hv1 hg1
  go_wp2_with (at_builtin; refine append_sl rfl _ _ rfl w2.heap.size v1 la _ rfl HV1.out ay lb cy _ rfl HCY.out (HSY.out.on hb3) (by omega) hb3.size ?_)
  intro v2 w4 hv2 hg2
  have hb4 : Below w2.heap.size w2 w4 := hb3.grown hg2 hb3.size (fun k hk => (HV1.out.lt k hk).1)
  clear hg2
  obtain ⟨az, cz, rfl, hcz, hsz⟩ := sl_of_own hv2 (small_append (small_map xs) (small_map ys)) (by omega)
  have HSZ := Lib.hid hsz; clear hsz hcz hv2
  go_wp2_with fail
  refine (sum_any az _ cz _ _ HSZ.out).mono ?_
  rintro _ _ ⟨rfl, rfl⟩
  rw [VZ.out, HZ.out]
  go_wp2_with fail
  have hall : Below w.heap.size w w4 := below_step (below_step hb1 hb2) hb4
  refine (awake_yes _ (ht.on hall)).mono ?_
  rintro _ w5 ⟨rfl, hb5⟩
  go_wp2
  go_ret
  exact ⟨rfl, below_step hall hb5⟩

set_option maxHeartbeats 800000 in
set_option maxRecDepth 100000 in
theorem first_great (a : Option Addr) (la ca : Nat) (b : Option Addr) (lb cb : Nat) (w : World) (ht : Tab w) (h : 50 < la ∨ 50 < lb) :
    Calls Tryd.prog 8 #[.slice a la ca, .slice b lb cb] w fun e w' => e = .returned (.bool true) ∧ Below w.heap.size w w' := by
  by_cases h1 : 50 < la
  all_goals
    have h2 : 50 < la ∨ 50 < lb := h
    clear h
    go_enter Tryd.func8, Tryd.ntmps8
    go_wp2_with fail
    refine (awake_yes _ ht).mono ?_
    rintro _ w2 ⟨rfl, hb2⟩
    go_wp2
    go_ret
    exact ⟨rfl, hb2⟩
theorem first_walk (a : Option Addr) (la ca : Nat) (xs : List Int) (b : Option Addr) (lb cb : Nat) (ys : List Int) (w : World) (ht : Tab w) (hx : IsRow .i64 w a la ca xs) (hy : IsRow .i64 w b lb cb ys) :
    Calls Tryd.prog 8 #[.slice a la ca, .slice b lb cb] w fun e w' => e = .returned (.bool true) ∧ Below w.heap.size w w' := by
  by_cases h : 50 < la ∨ 50 < lb
  · exact first_great a la ca b lb cb w ht h
  · exact first_small a la ca _ b lb cb _ w ht (sl_of_row hx) (sl_of_row hy) (by omega) (by omega)
end Go.Proofs.YtplbebfpahgmoaaDoor
