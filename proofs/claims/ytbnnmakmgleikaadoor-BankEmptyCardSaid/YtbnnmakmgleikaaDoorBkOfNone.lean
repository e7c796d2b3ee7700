/-
  The file of a period in which nobody is paid: what the landed bank answers.
-/
import Derived.Test.YtbnnmakmgleikaaDoorSortNone
import Derived.Test.YtbnnmakmgleikaaDoorLaw22Awake
import Derived.Laws.IdiomRangeMap
set_option linter.unusedVariables false
namespace Go.Proofs.YtbnnmakmgleikaaDoor
open Go.RowKit
open PBank (Pay)

/-- Of, of nobody: the file, or that there is none. -/
def OfB (per : Int) (w : World) (e : Ending) (w' : World) : Prop :=
  (PBank.Rt per [] ∧ e = .returned (.tuple #[.agg #[.int .i64 per, .slice none 0 0], .int .i64 0]) ∧ Below w.heap.size w w') ∨
  (¬ PBank.Rt per [] ∧ e = .returned (.tuple #[.agg #[.int .i64 0, .slice none 0 0], .int .i64 1]) ∧ Below w.heap.size w w')
theorem b1of {w : World} {H : Nat} {a : Value} (h : Box w H [a]) : w.cell? ⟨H, 0, none⟩ = some a := h.c 0 rfl
/-- The blocks that are laid first: the arguments, the result. -/
theorem of_enter (w : World) (t t2 t3 : TypeId) : ∃ w1, ((w.alloc (.cells #[.slice none 0 0] t)).alloc (.cells #[.slice none 0 0] t2)).alloc (.cells #[.int .i64 0, .slice none 0 0] t3) = w1 ∧ Box w1 w.heap.size [.slice none 0 0] ∧ Box w1 (w.heap.size + 2) [.int .i64 0, .slice none 0 0] ∧ Below w.heap.size w w1 ∧ w1.heap.size = w.heap.size + 3 := by
  refine ⟨_, rfl, ((Box.new w t [.slice none 0 0]).alloc _).alloc _, Box.new' _ t3 [.int .i64 0, .slice none 0 0] (by simp), (((Below.refl _ _).alloc (Nat.le_refl _) _).alloc (by simp) _).alloc (by simp; omega) _, by simp⟩
theorem map_block (w : World) : ∃ w1, w.alloc (.map #[] 0) = w1 ∧ w1.heap[w.heap.size]? = some (.map #[] 0) ∧ Below w.heap.size w w1 := ⟨_, rfl, heap_alloc_new w _, (Below.refl _ _).alloc (Nat.le_refl _) _⟩
set_option maxRecDepth 100000 in
set_option maxHeartbeats 6400000 in
theorem kof_none (w : World) (per : Int) : Calls Tryd.prog 17 #[.agg #[.slice none 0 0], .agg #[.slice none 0 0], .int .i64 per] w (OfB per w) := by
  obtain ⟨Q, hQ⟩ : ∃ Q, OfB per w = Q := ⟨_, rfl⟩
  rw [hQ]
  have FY : Hid (PBank.Rt per [] → ∀ w', Below w.heap.size w w' → Q (.returned (.tuple #[.agg #[.int .i64 per, .slice none 0 0], .int .i64 0])) w') := Lib.hid (fun h w' hb => by rw [← hQ]; exact .inl ⟨h, rfl, hb⟩)
  have FN : Hid (¬ PBank.Rt per [] → ∀ w', Below w.heap.size w w' → Q (.returned (.tuple #[.agg #[.int .i64 0, .slice none 0 0], .int .i64 1])) w') := Lib.hid (fun h w' hb => by rw [← hQ]; exact .inr ⟨h, rfl, hb⟩)
  obtain ⟨w1, hw1, BB, RB, b1, hs1⟩ := of_enter w 49 52 24
  obtain ⟨L, hL⟩ : ∃ L, w.heap.size = L := ⟨_, rfl⟩
  rw [hL] at BB RB b1 hs1 FY FN
  obtain ⟨w2, w3, hw2, hw3, X2, X3, b13⟩ := file_box w1 24 per none 0 0
  rw [hs1] at X2 X3 hw3
  obtain ⟨x0, x1⟩ := c2 X2
  obtain ⟨xf0, xf1⟩ := f2 X2
  have hsx := X2.1
  obtain ⟨w4, hw4, hm4, b34⟩ := map_block w3
  have hmm := @run_makeMap Tryd.prog
  have RB4 := (RB.on b13).on b34
  have BB4 := (BB.on b13).on b34
  have X4 := X3.on b34
  have B4 := Lib.hid ((b1.trans (b13.mono (by omega))).trans (b34.mono (by have := b13.size; omega)))
  have HW1 := Lib.hid hw1; have HW3 := Lib.hid hw3; have HW4 := Lib.hid hw4
  have hrg := Lib.hid (run_range_map (P := Tryd.prog) w4 68 3 89 w3.heap.size #[] 0 Tryd.underlying68 hm4)
  clear hw1 hw3 hw4
  go_enter Tryd.func17, Tryd.ntmps17
  go_upto_region 1 with fail
  (try rw [hL])
  rw [HW1.out]
  go_upto_region 2 with fail
  rw [HW3.out]
  clear HW3 hw2 x0 x1 xf0 xf1 hsx
  go_upto_region 3 with fail
  rw [HW4.out]
  have q0 := b1of BB4
  have hsq := BB4.1
  obtain ⟨N4, hN4⟩ : ∃ N, w3.heap.size = N := ⟨_, rfl⟩
  have hN4' := Lib.hid hN4
  rw [hN4] at hm4 hrg ⊢
  clear HW4 hmm hN4
  go_wp2_with fail
  go_loopw [25] (fun i wr => i = .int .i64 0 ∧ wr = w4) (fun _ _ => 0)
  case atStart => exact ⟨rfl, rfl⟩
  case round =>
    obtain ⟨rfl, rfl⟩ := hrel
    have g0 : ¬ (0 : Int) < 0 := by omega
    obtain ⟨w5, hw5, b45⟩ : ∃ w5, wr.alloc (.mapIter (some N4) 0 #[] 0) = w5 ∧ Below wr.heap.size wr w5 := ⟨_, rfl, (Below.refl _ _).alloc (Nat.le_refl _) _⟩
    have nx : (leftOf #[] #[]).size = 0 ∧ ∀ ty, (Instr.next (.pointer (some ⟨wr.heap.size, 0, none⟩)) false ty).run Tryd.prog (wr.alloc (.mapIter (some N4) 0 #[] 0)) = .ok (.tuple #[.bool false]) (wr.alloc (.mapIter (some N4) 0 #[] 0)) := by
      refine ⟨rfl, fun ty => ?_⟩
      rcases run_next_map (P := Tryd.prog) wr ty N4 0 0 #[] #[] 0 hm4 (fun x hx => by simp at hx) (Nat.le_refl _) with ⟨_, h⟩ | ⟨e, he, _⟩
      · exact h
      · simp [leftOf] at he
    have NX := Lib.hid nx.2
    rw [hw5] at NX
    clear nx
    go_upto_region 18 with fail
    have hr := hrg.out
    go_wp2_with fail
    clear hr
    obtain ⟨wo, hwo⟩ : ∃ wo, wo = wr := ⟨_, rfl⟩
    subst hwo
    go_loopw [] (fun wx => wx = w5) (fun _ => 0)
    case atStart => rfl
    case round =>
      obtain rfl := hrel
      have hx := NX.out
      have X5 := X4.on b45
      have RB5 := RB4.on b45
      obtain ⟨y0, y1⟩ := c2 X5
      have hsy := X5.1
      have HX5 := Lib.hid X5; have HR5 := Lib.hid RB5
      clear X5 RB5
      go_upto_region 22 with fail
      clear hx
      go_wp2_with (go_at_call 31; refine (sort_none _ _).mono ?_)
      rintro e6 w6 ⟨rfl, rfl⟩
      have CG := kright_any (per := per) (c := 0) (slr_nil payR w6 none) (by decide)
      have RF : w6.frozen? ⟨L + 2, 0, none⟩ = false ∧ w6.frozen? ⟨L + 2, 1, none⟩ = false := f2 HR5.out
      have B5 := Lib.hid (B4.out.trans (b45.mono (by have := BB4.1; omega)))
      by_cases hR : PBank.Rt per []
      · rw [decide_eq_true hR] at CG
        have CG := Lib.hid CG
        have FY := Lib.hid (FY.out hR)
        clear hR
        go_wp2_with (go_at_call 13; refine CG.out.mono ?_)
        intro e7 w7 h7
        obtain ⟨rfl, b7⟩ := h7
        have X7 := HX5.out.on b7
        obtain ⟨y0, y1⟩ := c2 X7
        have hsy := X7.1
        have R7 := HR5.out.on b7
        obtain ⟨r0, r1⟩ := c2 R7
        obtain ⟨rf0, rf1⟩ := f2 R7
        have hsr := R7.1
        obtain ⟨w9, hw9, X9, ON9⟩ : ∃ w9, (w7.setCell ⟨L + 2, 0, none⟩ (.int .i64 per)).setCell ⟨L + 2, 1, none⟩ (.slice none 0 0) = w9 ∧ Box w9 (L + 2) [.int .i64 per, .slice none 0 0] ∧ Only (L + 2) w7 w9 := ⟨_, rfl, (R7.set 0 (by simp) _).set 1 (by simp) _, ((Only.refl _ _).set 0 _).set 1 _⟩
        have B9 := Lib.hid (ON9.below (B := L) (by omega) (B5.out.trans (b7.mono (by have := HR5.out.1; omega))))
        obtain ⟨k0, k1⟩ := c2 X9
        have hk := X9.1
        have HW9 := Lib.hid hw9
        clear X7 R7 X9 ON9 hw9 b7 CG
        go_wp2_with fail
        rw [HW9.out]
        clear r0 r1 rf0 rf1 hsr y0 y1 hsy
        refine bodyPost_ret (by simp [results, Tryd.results17, go_sem, k0, k1]; try rfl) rfl ?_
        exact FY.out _ B9.out
      · rw [decide_eq_false hR] at CG
        have CG := Lib.hid CG
        have FN := Lib.hid (FN.out hR)
        clear hR
        go_wp2_with (go_at_call 13; refine CG.out.mono ?_)
        intro e7 w7 h7
        obtain ⟨rfl, b7⟩ := h7
        have R7 := HR5.out.on b7
        obtain ⟨r0, r1⟩ := c2 R7
        obtain ⟨rf0, rf1⟩ := f2 R7
        have hsr := R7.1
        obtain ⟨w9, hw9, X9, ON9⟩ : ∃ w9, (w7.setCell ⟨L + 2, 0, none⟩ (.int .i64 0)).setCell ⟨L + 2, 1, none⟩ (.slice none 0 0) = w9 ∧ Box w9 (L + 2) [.int .i64 0, .slice none 0 0] ∧ Only (L + 2) w7 w9 := ⟨_, rfl, (R7.set 0 (by simp) _).set 1 (by simp) _, ((Only.refl _ _).set 0 _).set 1 _⟩
        have B9 := Lib.hid (ON9.below (B := L) (by omega) (B5.out.trans (b7.mono (by have := HR5.out.1; omega))))
        obtain ⟨k0, k1⟩ := c2 X9
        have hk := X9.1
        have HW9 := Lib.hid hw9
        clear R7 X9 ON9 hw9 b7 CG
        go_wp2_with fail
        rw [HW9.out]
        clear r0 r1 rf0 rf1 hsr
        refine bodyPost_ret (by simp [results, Tryd.results17, go_sem, k0, k1]; try rfl) rfl ?_
        exact FN.out _ B9.out
end Go.Proofs.YtbnnmakmgleikaaDoor
