/-
  slices.SortStableFunc of the places 0, 1, .. (at most 60): the places in the order, of those that are alike the first ones ahead.
-/
import Derived.Test.YtmmgejgmlhhfdaaSymMerge
import Derived.Test.YtmmgejgmlhhfdaaShelf
import Derived.Shelf.SlSortCmp.Insertion1
namespace Go.Proofs.Ytmmgejgmlhhfdaa
open Go.RowKit Go.Sort Go.Lib PSym

section
variable {n : Nat}
/-- [lo, hi) is sorted, and holds its own places. -/
def Blk (lt : Fin (n + 1) → Fin (n + 1) → Bool) (lo hi : Nat) (d : Array (Fin (n + 1))) : Prop :=
  SortedIn lt lo hi d ∧ ∀ t, lo ≤ t → t < hi → lo ≤ (at' d t).val ∧ (at' d t).val < hi
theorem Blk.on {lt : Fin (n + 1) → Fin (n + 1) → Bool} {lo hi a b : Nat} {d d' : Array (Fin (n + 1))} (h : Blk lt lo hi d) (hp : PermIn a b d d') (hx : hi ≤ a ∨ b ≤ lo) : Blk lt lo hi d' :=
  ⟨sorted_other hp hx h.1, fun t h1 h2 => by rw [perm_other hp t (by omega)]; exact h.2 t h1 h2⟩
theorem blk_of {lt : Fin (n + 1) → Fin (n + 1) → Bool} {a b : Nat} {d d' : Array (Fin (n + 1))} (hb : b ≤ d.size) (hs : SortedIn lt a b d') (hp : PermIn a b d d') (h : ∀ t, a ≤ t → t < b → a ≤ (at' d t).val ∧ (at' d t).val < b) : Blk lt a b d' :=
  ⟨hs, fun t h1 h2 => permIn_all d d' a b (fun x => a ≤ x.val ∧ x.val < b) hb hp h t h1 h2⟩
end

/-- What the sort is told, once. -/
structure Told (n blk off N g : Nat) (cb : Array Value) (cf : Fin (n + 1) → Fin (n + 1) → Int) (lt : Fin (n + 1) → Fin (n + 1) → Bool) (d0 : Array (Fin (n + 1))) (w0 : World) : Prop where
  hS : SWO lt
  eg : ∀ args w, (callFunc g args).run Try.prog w = .ok (.enter g args) w
  hC : CmpReads Try.prog g cb enc1 cf blk off N w0
  R : Row1 enc1 w0 blk off d0
  hN : d0.size = N
  hsz : N ≤ 60
  hV : ∀ x y : Fin (n + 1), x.val < y.val → ltOf cf y x = lt y x

theorem insG {n blk off N g : Nat} {cb : Array Value} {cf : Fin (n + 1) → Fin (n + 1) → Int} {lt : Fin (n + 1) → Fin (n + 1) → Bool} {d0 : Array (Fin (n + 1))} {w0 : World} (T : Told n blk off N g cb cf lt d0 w0)
    (cap a b : Nat) (d : Array (Fin (n + 1))) (w : World) (hs : d.size = N) (S : SW enc1 w0 blk off d w) (hab : a ≤ b) (hb : b ≤ N) (hf : ∀ t, a ≤ t → t < b → (at' d t).val = t) :
    Calls Try.prog 83 #[.slice (some ⟨blk, off, none⟩) N cap, .int .i64 a, .int .i64 b, .func (.func g) #[] cb] w fun e w' =>
      e = .returned (.tuple #[]) ∧ ∃ d', Aside (SW enc1 w0 blk off d' w') ∧ PermIn a b d d' ∧ Blk lt a b d' := by
  have h60 := T.hsz
  have hsz := hs
  subst hs
  refine (Any.insertionSortCmpFunc_s Try.laysSlF20_f83 enc1 cf g cb blk off cap a b d0 d w0 w T.eg (by rw [T.hN]; exact T.hC.lays) T.R (by rw [T.hN]) S hab hb (by omega)).mono ?_
  rintro e w' ⟨rfl, S'⟩
  have k := insertion_agr (c := ltOf cf) T.hS hab hb (fun u h1 h2 t h3 h4 => T.hV _ _ (by rw [hf t h3 (by omega), hf u h1 h2]; exact h4))
  exact ⟨rfl, _, S', k.1, blk_of hb k.2 k.1 (fun t h1 h2 => by rw [hf t h1 h2]; omega)⟩

theorem symG {n blk off N g : Nat} {cb : Array Value} {cf : Fin (n + 1) → Fin (n + 1) → Int} {lt : Fin (n + 1) → Fin (n + 1) → Bool} {d0 : Array (Fin (n + 1))} {w0 : World} (T : Told n blk off N g cb cf lt d0 w0)
    (cap a m b : Nat) (d : Array (Fin (n + 1))) (w : World) (hs : d.size = N) (S : SW enc1 w0 blk off d w) (ham : a < m) (hmb : m < b) (hb : b ≤ N) (h1 : Blk lt a m d) (h2 : Blk lt m b d) :
    Calls Try.prog 84 #[.slice (some ⟨blk, off, none⟩) N cap, .int .i64 a, .int .i64 m, .int .i64 b, .func (.func g) #[] cb] w fun e w' =>
      e = .returned (.tuple #[]) ∧ ∃ d', Aside (SW enc1 w0 blk off d' w') ∧ PermIn a b d d' ∧ Blk lt a b d' := by
  have h60 := T.hsz
  refine (sym_any n blk off cap N g cb cf lt T.hS T.eg d0 w0 T.hC T.R T.hN (by omega) (b - a) a m b d w (Nat.le_refl _) hs S ham hmb hb h1.1 h2.1 (fun i j x1 x2 x3 x4 => T.hV _ _ (by have := h1.2 i x1 x2; have := h2.2 j x3 x4; omega))).mono ?_
  rintro e w' ⟨rfl, d', S', p, o⟩
  exact ⟨rfl, d', S', p, blk_of (by omega) o p (fun t x1 x2 => by
    by_cases ht : t < m
    · have := h1.2 t x1 ht; omega
    · have := h2.2 t (by omega) x2; omega)⟩
/-- What slices.stableCmpFunc does to the row of places. -/
def StableSays (n blk off N g : Nat) (cb : Array Value) (lt : Fin (n + 1) → Fin (n + 1) → Bool) (d0 : Array (Fin (n + 1))) (w0 : World) (cap : Nat) : Prop :=
  Calls Try.prog 79 #[.slice (some ⟨blk, off, none⟩) N cap, .int .i64 N, .func (.func g) #[] cb] w0 fun e w' =>
    e = .returned (.tuple #[]) ∧ ∃ d', SW enc1 w0 blk off d' w' ∧ PermIn 0 N d0 d' ∧ Blk lt 0 N d'

set_option maxHeartbeats 4000000 in
set_option maxRecDepth 100000 in
theorem stableA {n blk off N g : Nat} {cb : Array Value} {cf : Fin (n + 1) → Fin (n + 1) → Int} {lt : Fin (n + 1) → Fin (n + 1) → Bool} {d0 : Array (Fin (n + 1))} {w0 : World} (T : Told n blk off N g cb cf lt d0 w0)
    (cap : Nat) (S : SW enc1 w0 blk off d0 w0) (hf : ∀ t, t < N → (at' d0 t).val = t) (hcase : N < 20) : StableSays n blk off N g cb lt d0 w0 cap := by
  unfold StableSays
  have T' := Lib.hid T; have hs0 := T.hN
  have HF := Lib.hid hf
  have S0 : Aside _ := S
  clear S hf T
  have f0 : ¬ (20 : Int) ≤ (N : Int) := by omega
  go_enter Try.func79, Try.ntmps79
  go_wp2_with fail
  refine wp_loop_rounds 1 ?_
  rw [rounds_succ]
  go_wp2_with fail
  refine (insG T'.out cap 0 N d0 _ hs0 S0.out (by omega) (by omega) (fun t h1 h2 => by rw [HF.out t (by omega)])).mono ?_
  rintro _ w1 ⟨rfl, d1, S1, P, B⟩
  have hs1 : d1.size = N := by rw [P.1]; exact hs0
  have HP1 := Lib.hid P
  have B0_N := Lib.hid B
  clear P B S0
  go_wp2_with fail
  refine wp_loop_rounds 1 ?_
  rw [rounds_succ]
  go_wp2_with fail
  go_end0
  have p0 : PermIn 0 N d0 d0 := permIn_refl _ _ _
  have p1 : PermIn 0 N d0 d1 := permIn_trans _ _ _ _ _ p0 (permIn_mono _ _ _ _ _ _ (by omega) (by omega) (by omega) HP1.out)
  exact ⟨rfl, d1, S1.out, p1, B0_N.out⟩

set_option maxHeartbeats 4000000 in
set_option maxRecDepth 100000 in
theorem stableB {n blk off N g : Nat} {cb : Array Value} {cf : Fin (n + 1) → Fin (n + 1) → Int} {lt : Fin (n + 1) → Fin (n + 1) → Bool} {d0 : Array (Fin (n + 1))} {w0 : World} (T : Told n blk off N g cb cf lt d0 w0)
    (cap : Nat) (S : SW enc1 w0 blk off d0 w0) (hf : ∀ t, t < N → (at' d0 t).val = t) (hcase : 20 ≤ N ∧ N ≤ 20) : StableSays n blk off N g cb lt d0 w0 cap := by
  unfold StableSays
  have T' := Lib.hid T; have hs0 := T.hN
  have HF := Lib.hid hf
  have S0 : Aside _ := S
  clear S hf T
  have t0 : (20 : Int) ≤ (N : Int) := by omega
  have f0 : ¬ (40 : Int) ≤ (N : Int) := by omega
  have f1 : ¬ (20 : Int) < (N : Int) := by omega
  go_enter Try.func79, Try.ntmps79
  go_wp2_with fail
  refine wp_loop_rounds 2 ?_
  rw [rounds_succ]
  go_wp2_with fail
  refine (insG T'.out cap 0 20 d0 _ hs0 S0.out (by omega) (by omega) (fun t h1 h2 => by rw [HF.out t (by omega)])).mono ?_
  rintro _ w1 ⟨rfl, d1, S1, P, B⟩
  have hs1 : d1.size = N := by rw [P.1]; exact hs0
  have HP1 := Lib.hid P
  have B0_20 := Lib.hid B
  clear P B S0
  go_wp2_with fail
  rw [rounds_succ]
  go_wp2_with fail
  refine (insG T'.out cap 20 N d1 _ hs1 S1.out (by omega) (by omega) (fun t h1 h2 => by rw [perm_other HP1.out t (.inr (by omega)), HF.out t (by omega)])).mono ?_
  rintro _ w2 ⟨rfl, d2, S2, P, B⟩
  have hs2 : d2.size = N := by rw [P.1]; exact hs1
  have HP2 := Lib.hid P
  have B0_20 := Lib.hid (B0_20.out.on P (.inl (by omega)))
  have B20_N := Lib.hid B
  clear P B S1
  go_wp2_with fail
  refine wp_loop_rounds 1 ?_
  rw [rounds_succ]
  go_wp2_with fail
  go_end0
  have p0 : PermIn 0 N d0 d0 := permIn_refl _ _ _
  have p1 : PermIn 0 N d0 d1 := permIn_trans _ _ _ _ _ p0 (permIn_mono _ _ _ _ _ _ (by omega) (by omega) (by omega) HP1.out)
  have p2 : PermIn 0 N d0 d2 := permIn_trans _ _ _ _ _ p1 (permIn_mono _ _ _ _ _ _ (by omega) (by omega) (by omega) HP2.out)
  exact ⟨rfl, d2, S2.out, p2, (by have h := B0_20.out; rw [show N = 20 by omega]; exact h)⟩

set_option maxHeartbeats 4000000 in
set_option maxRecDepth 100000 in
theorem stableC {n blk off N g : Nat} {cb : Array Value} {cf : Fin (n + 1) → Fin (n + 1) → Int} {lt : Fin (n + 1) → Fin (n + 1) → Bool} {d0 : Array (Fin (n + 1))} {w0 : World} (T : Told n blk off N g cb cf lt d0 w0)
    (cap : Nat) (S : SW enc1 w0 blk off d0 w0) (hf : ∀ t, t < N → (at' d0 t).val = t) (hcase : 20 < N ∧ N < 40) : StableSays n blk off N g cb lt d0 w0 cap := by
  unfold StableSays
  have T' := Lib.hid T; have hs0 := T.hN
  have HF := Lib.hid hf
  have S0 : Aside _ := S
  clear S hf T
  have t0 : (20 : Int) ≤ (N : Int) := by omega
  have t1 : (20 : Int) < (N : Int) := by omega
  have f0 : ¬ (40 : Int) ≤ (N : Int) := by omega
  have f1 : ¬ (40 : Int) < (N : Int) := by omega
  go_enter Try.func79, Try.ntmps79
  go_wp2_with fail
  refine wp_loop_rounds 2 ?_
  rw [rounds_succ]
  go_wp2_with fail
  refine (insG T'.out cap 0 20 d0 _ hs0 S0.out (by omega) (by omega) (fun t h1 h2 => by rw [HF.out t (by omega)])).mono ?_
  rintro _ w1 ⟨rfl, d1, S1, P, B⟩
  have hs1 : d1.size = N := by rw [P.1]; exact hs0
  have HP1 := Lib.hid P
  have B0_20 := Lib.hid B
  clear P B S0
  go_wp2_with fail
  rw [rounds_succ]
  go_wp2_with fail
  refine (insG T'.out cap 20 N d1 _ hs1 S1.out (by omega) (by omega) (fun t h1 h2 => by rw [perm_other HP1.out t (.inr (by omega)), HF.out t (by omega)])).mono ?_
  rintro _ w2 ⟨rfl, d2, S2, P, B⟩
  have hs2 : d2.size = N := by rw [P.1]; exact hs1
  have HP2 := Lib.hid P
  have B0_20 := Lib.hid (B0_20.out.on P (.inl (by omega)))
  have B20_N := Lib.hid B
  clear P B S1
  go_wp2_with fail
  refine wp_loop_rounds 2 ?_
  rw [rounds_succ]
  go_wp2_with fail
  refine wp_loop_rounds 1 ?_
  rw [rounds_succ]
  go_wp2_with fail
  refine (symG T'.out cap 0 20 N d2 _ hs2 S2.out (by omega) (by omega) (by omega) B0_20.out B20_N.out).mono ?_
  rintro _ w3 ⟨rfl, d3, S3, P, B⟩
  have hs3 : d3.size = N := by rw [P.1]; exact hs2
  have HP3 := Lib.hid P
  have B0_N := Lib.hid B
  clear P B S2
  go_wp2_with fail
  rw [rounds_succ]
  go_wp2_with fail
  go_end0
  have p0 : PermIn 0 N d0 d0 := permIn_refl _ _ _
  have p1 : PermIn 0 N d0 d1 := permIn_trans _ _ _ _ _ p0 (permIn_mono _ _ _ _ _ _ (by omega) (by omega) (by omega) HP1.out)
  have p2 : PermIn 0 N d0 d2 := permIn_trans _ _ _ _ _ p1 (permIn_mono _ _ _ _ _ _ (by omega) (by omega) (by omega) HP2.out)
  have p3 : PermIn 0 N d0 d3 := permIn_trans _ _ _ _ _ p2 (permIn_mono _ _ _ _ _ _ (by omega) (by omega) (by omega) HP3.out)
  exact ⟨rfl, d3, S3.out, p3, B0_N.out⟩

set_option maxHeartbeats 4000000 in
set_option maxRecDepth 100000 in
theorem stableD {n blk off N g : Nat} {cb : Array Value} {cf : Fin (n + 1) → Fin (n + 1) → Int} {lt : Fin (n + 1) → Fin (n + 1) → Bool} {d0 : Array (Fin (n + 1))} {w0 : World} (T : Told n blk off N g cb cf lt d0 w0)
    (cap : Nat) (S : SW enc1 w0 blk off d0 w0) (hf : ∀ t, t < N → (at' d0 t).val = t) (hcase : 40 ≤ N ∧ N ≤ 40) : StableSays n blk off N g cb lt d0 w0 cap := by
  unfold StableSays
  have T' := Lib.hid T; have hs0 := T.hN
  have HF := Lib.hid hf
  have S0 : Aside _ := S
  clear S hf T
  have t0 : (20 : Int) ≤ (N : Int) := by omega
  have t1 : (40 : Int) ≤ (N : Int) := by omega
  have t2 : (20 : Int) < (N : Int) := by omega
  have f0 : ¬ (60 : Int) ≤ (N : Int) := by omega
  have f1 : ¬ (40 : Int) < (N : Int) := by omega
  have f2 : ¬ (80 : Int) ≤ (N : Int) := by omega
  have f3 : ¬ (60 : Int) < (N : Int) := by omega
  go_enter Try.func79, Try.ntmps79
  go_wp2_with fail
  refine wp_loop_rounds 3 ?_
  rw [rounds_succ]
  go_wp2_with fail
  refine (insG T'.out cap 0 20 d0 _ hs0 S0.out (by omega) (by omega) (fun t h1 h2 => by rw [HF.out t (by omega)])).mono ?_
  rintro _ w1 ⟨rfl, d1, S1, P, B⟩
  have hs1 : d1.size = N := by rw [P.1]; exact hs0
  have HP1 := Lib.hid P
  have B0_20 := Lib.hid B
  clear P B S0
  go_wp2_with fail
  rw [rounds_succ]
  go_wp2_with fail
  refine (insG T'.out cap 20 40 d1 _ hs1 S1.out (by omega) (by omega) (fun t h1 h2 => by rw [perm_other HP1.out t (.inr (by omega)), HF.out t (by omega)])).mono ?_
  rintro _ w2 ⟨rfl, d2, S2, P, B⟩
  have hs2 : d2.size = N := by rw [P.1]; exact hs1
  have HP2 := Lib.hid P
  have B0_20 := Lib.hid (B0_20.out.on P (.inl (by omega)))
  have B20_40 := Lib.hid B
  clear P B S1
  go_wp2_with fail
  rw [rounds_succ]
  go_wp2_with fail
  refine (insG T'.out cap 40 N d2 _ hs2 S2.out (by omega) (by omega) (fun t h1 h2 => by rw [perm_other HP2.out t (.inr (by omega)),  perm_other HP1.out t (.inr (by omega)), HF.out t (by omega)])).mono ?_
  rintro _ w3 ⟨rfl, d3, S3, P, B⟩
  have hs3 : d3.size = N := by rw [P.1]; exact hs2
  have HP3 := Lib.hid P
  have B0_20 := Lib.hid (B0_20.out.on P (.inl (by omega)))
  have B20_40 := Lib.hid (B20_40.out.on P (.inl (by omega)))
  have B40_N := Lib.hid B
  clear P B S2
  go_wp2_with fail
  refine wp_loop_rounds 2 ?_
  rw [rounds_succ]
  go_wp2_with fail
  refine wp_loop_rounds 2 ?_
  rw [rounds_succ]
  go_wp2_with fail
  refine (symG T'.out cap 0 20 40 d3 _ hs3 S3.out (by omega) (by omega) (by omega) B0_20.out B20_40.out).mono ?_
  rintro _ w4 ⟨rfl, d4, S4, P, B⟩
  have hs4 : d4.size = N := by rw [P.1]; exact hs3
  have HP4 := Lib.hid P
  have B40_N := Lib.hid (B40_N.out.on P (.inr (by omega)))
  have B0_40 := Lib.hid B
  clear P B S3
  go_wp2_with fail
  rw [rounds_succ]
  go_wp2_with fail
  rw [rounds_succ]
  go_wp2_with fail
  go_end0
  have p0 : PermIn 0 N d0 d0 := permIn_refl _ _ _
  have p1 : PermIn 0 N d0 d1 := permIn_trans _ _ _ _ _ p0 (permIn_mono _ _ _ _ _ _ (by omega) (by omega) (by omega) HP1.out)
  have p2 : PermIn 0 N d0 d2 := permIn_trans _ _ _ _ _ p1 (permIn_mono _ _ _ _ _ _ (by omega) (by omega) (by omega) HP2.out)
  have p3 : PermIn 0 N d0 d3 := permIn_trans _ _ _ _ _ p2 (permIn_mono _ _ _ _ _ _ (by omega) (by omega) (by omega) HP3.out)
  have p4 : PermIn 0 N d0 d4 := permIn_trans _ _ _ _ _ p3 (permIn_mono _ _ _ _ _ _ (by omega) (by omega) (by omega) HP4.out)
  exact ⟨rfl, d4, S4.out, p4, (by have h := B0_40.out; rw [show N = 40 by omega]; exact h)⟩

set_option maxHeartbeats 4000000 in
set_option maxRecDepth 100000 in
theorem stableE {n blk off N g : Nat} {cb : Array Value} {cf : Fin (n + 1) → Fin (n + 1) → Int} {lt : Fin (n + 1) → Fin (n + 1) → Bool} {d0 : Array (Fin (n + 1))} {w0 : World} (T : Told n blk off N g cb cf lt d0 w0)
    (cap : Nat) (S : SW enc1 w0 blk off d0 w0) (hf : ∀ t, t < N → (at' d0 t).val = t) (hcase : 40 < N ∧ N < 60) : StableSays n blk off N g cb lt d0 w0 cap := by
  unfold StableSays
  have T' := Lib.hid T; have hs0 := T.hN
  have HF := Lib.hid hf
  have S0 : Aside _ := S
  clear S hf T
  have t0 : (20 : Int) ≤ (N : Int) := by omega
  have t1 : (40 : Int) ≤ (N : Int) := by omega
  have t2 : (20 : Int) < (N : Int) := by omega
  have t3 : (40 : Int) < (N : Int) := by omega
  have f0 : ¬ (60 : Int) ≤ (N : Int) := by omega
  have f1 : ¬ (80 : Int) ≤ (N : Int) := by omega
  have f2 : ¬ (60 : Int) < (N : Int) := by omega
  have f3 : ¬ (80 : Int) < (N : Int) := by omega
  go_enter Try.func79, Try.ntmps79
  go_wp2_with fail
  refine wp_loop_rounds 3 ?_
  rw [rounds_succ]
  go_wp2_with fail
  refine (insG T'.out cap 0 20 d0 _ hs0 S0.out (by omega) (by omega) (fun t h1 h2 => by rw [HF.out t (by omega)])).mono ?_
  rintro _ w1 ⟨rfl, d1, S1, P, B⟩
  have hs1 : d1.size = N := by rw [P.1]; exact hs0
  have HP1 := Lib.hid P
  have B0_20 := Lib.hid B
  clear P B S0
  go_wp2_with fail
  rw [rounds_succ]
  go_wp2_with fail
  refine (insG T'.out cap 20 40 d1 _ hs1 S1.out (by omega) (by omega) (fun t h1 h2 => by rw [perm_other HP1.out t (.inr (by omega)), HF.out t (by omega)])).mono ?_
  rintro _ w2 ⟨rfl, d2, S2, P, B⟩
  have hs2 : d2.size = N := by rw [P.1]; exact hs1
  have HP2 := Lib.hid P
  have B0_20 := Lib.hid (B0_20.out.on P (.inl (by omega)))
  have B20_40 := Lib.hid B
  clear P B S1
  go_wp2_with fail
  rw [rounds_succ]
  go_wp2_with fail
  refine (insG T'.out cap 40 N d2 _ hs2 S2.out (by omega) (by omega) (fun t h1 h2 => by rw [perm_other HP2.out t (.inr (by omega)),  perm_other HP1.out t (.inr (by omega)), HF.out t (by omega)])).mono ?_
  rintro _ w3 ⟨rfl, d3, S3, P, B⟩
  have hs3 : d3.size = N := by rw [P.1]; exact hs2
  have HP3 := Lib.hid P
  have B0_20 := Lib.hid (B0_20.out.on P (.inl (by omega)))
  have B20_40 := Lib.hid (B20_40.out.on P (.inl (by omega)))
  have B40_N := Lib.hid B
  clear P B S2
  go_wp2_with fail
  refine wp_loop_rounds 3 ?_
  rw [rounds_succ]
  go_wp2_with fail
  refine wp_loop_rounds 2 ?_
  rw [rounds_succ]
  go_wp2_with fail
  refine (symG T'.out cap 0 20 40 d3 _ hs3 S3.out (by omega) (by omega) (by omega) B0_20.out B20_40.out).mono ?_
  rintro _ w4 ⟨rfl, d4, S4, P, B⟩
  have hs4 : d4.size = N := by rw [P.1]; exact hs3
  have HP4 := Lib.hid P
  have B40_N := Lib.hid (B40_N.out.on P (.inr (by omega)))
  have B0_40 := Lib.hid B
  clear P B S3
  go_wp2_with fail
  rw [rounds_succ]
  go_wp2_with fail
  rw [rounds_succ]
  go_wp2_with fail
  refine wp_loop_rounds 1 ?_
  rw [rounds_succ]
  go_wp2_with fail
  refine (symG T'.out cap 0 40 N d4 _ hs4 S4.out (by omega) (by omega) (by omega) B0_40.out B40_N.out).mono ?_
  rintro _ w5 ⟨rfl, d5, S5, P, B⟩
  have hs5 : d5.size = N := by rw [P.1]; exact hs4
  have HP5 := Lib.hid P
  have B0_N := Lib.hid B
  clear P B S4
  go_wp2_with fail
  rw [rounds_succ]
  go_wp2_with fail
  go_end0
  have p0 : PermIn 0 N d0 d0 := permIn_refl _ _ _
  have p1 : PermIn 0 N d0 d1 := permIn_trans _ _ _ _ _ p0 (permIn_mono _ _ _ _ _ _ (by omega) (by omega) (by omega) HP1.out)
  have p2 : PermIn 0 N d0 d2 := permIn_trans _ _ _ _ _ p1 (permIn_mono _ _ _ _ _ _ (by omega) (by omega) (by omega) HP2.out)
  have p3 : PermIn 0 N d0 d3 := permIn_trans _ _ _ _ _ p2 (permIn_mono _ _ _ _ _ _ (by omega) (by omega) (by omega) HP3.out)
  have p4 : PermIn 0 N d0 d4 := permIn_trans _ _ _ _ _ p3 (permIn_mono _ _ _ _ _ _ (by omega) (by omega) (by omega) HP4.out)
  have p5 : PermIn 0 N d0 d5 := permIn_trans _ _ _ _ _ p4 (permIn_mono _ _ _ _ _ _ (by omega) (by omega) (by omega) HP5.out)
  exact ⟨rfl, d5, S5.out, p5, B0_N.out⟩

set_option maxHeartbeats 4000000 in
set_option maxRecDepth 100000 in
theorem stableF {n blk off N g : Nat} {cb : Array Value} {cf : Fin (n + 1) → Fin (n + 1) → Int} {lt : Fin (n + 1) → Fin (n + 1) → Bool} {d0 : Array (Fin (n + 1))} {w0 : World} (T : Told n blk off N g cb cf lt d0 w0)
    (cap : Nat) (S : SW enc1 w0 blk off d0 w0) (hf : ∀ t, t < N → (at' d0 t).val = t) (hcase : 60 ≤ N ∧ N ≤ 60) : StableSays n blk off N g cb lt d0 w0 cap := by
  unfold StableSays
  have T' := Lib.hid T; have hs0 := T.hN
  have HF := Lib.hid hf
  have S0 : Aside _ := S
  clear S hf T
  have t0 : (20 : Int) ≤ (N : Int) := by omega
  have t1 : (40 : Int) ≤ (N : Int) := by omega
  have t2 : (60 : Int) ≤ (N : Int) := by omega
  have t3 : (20 : Int) < (N : Int) := by omega
  have t4 : (40 : Int) < (N : Int) := by omega
  have f0 : ¬ (80 : Int) ≤ (N : Int) := by omega
  have f1 : ¬ (60 : Int) < (N : Int) := by omega
  have f2 : ¬ (80 : Int) < (N : Int) := by omega
  go_enter Try.func79, Try.ntmps79
  go_wp2_with fail
  refine wp_loop_rounds 4 ?_
  rw [rounds_succ]
  go_wp2_with fail
  refine (insG T'.out cap 0 20 d0 _ hs0 S0.out (by omega) (by omega) (fun t h1 h2 => by rw [HF.out t (by omega)])).mono ?_
  rintro _ w1 ⟨rfl, d1, S1, P, B⟩
  have hs1 : d1.size = N := by rw [P.1]; exact hs0
  have HP1 := Lib.hid P
  have B0_20 := Lib.hid B
  clear P B S0
  go_wp2_with fail
  rw [rounds_succ]
  go_wp2_with fail
  refine (insG T'.out cap 20 40 d1 _ hs1 S1.out (by omega) (by omega) (fun t h1 h2 => by rw [perm_other HP1.out t (.inr (by omega)), HF.out t (by omega)])).mono ?_
  rintro _ w2 ⟨rfl, d2, S2, P, B⟩
  have hs2 : d2.size = N := by rw [P.1]; exact hs1
  have HP2 := Lib.hid P
  have B0_20 := Lib.hid (B0_20.out.on P (.inl (by omega)))
  have B20_40 := Lib.hid B
  clear P B S1
  go_wp2_with fail
  rw [rounds_succ]
  go_wp2_with fail
  refine (insG T'.out cap 40 60 d2 _ hs2 S2.out (by omega) (by omega) (fun t h1 h2 => by rw [perm_other HP2.out t (.inr (by omega)),  perm_other HP1.out t (.inr (by omega)), HF.out t (by omega)])).mono ?_
  rintro _ w3 ⟨rfl, d3, S3, P, B⟩
  have hs3 : d3.size = N := by rw [P.1]; exact hs2
  have HP3 := Lib.hid P
  have B0_20 := Lib.hid (B0_20.out.on P (.inl (by omega)))
  have B20_40 := Lib.hid (B20_40.out.on P (.inl (by omega)))
  have B40_60 := Lib.hid B
  clear P B S2
  go_wp2_with fail
  rw [rounds_succ]
  go_wp2_with fail
  refine (insG T'.out cap 60 N d3 _ hs3 S3.out (by omega) (by omega) (fun t h1 h2 => by rw [perm_other HP3.out t (.inr (by omega)),  perm_other HP2.out t (.inr (by omega)),  perm_other HP1.out t (.inr (by omega)), HF.out t (by omega)])).mono ?_
  rintro _ w4 ⟨rfl, d4, S4, P, B⟩
  have hs4 : d4.size = N := by rw [P.1]; exact hs3
  have HP4 := Lib.hid P
  have B0_20 := Lib.hid (B0_20.out.on P (.inl (by omega)))
  have B20_40 := Lib.hid (B20_40.out.on P (.inl (by omega)))
  have B40_60 := Lib.hid (B40_60.out.on P (.inl (by omega)))
  have B60_N := Lib.hid B
  clear P B S3
  go_wp2_with fail
  refine wp_loop_rounds 3 ?_
  rw [rounds_succ]
  go_wp2_with fail
  refine wp_loop_rounds 2 ?_
  rw [rounds_succ]
  go_wp2_with fail
  refine (symG T'.out cap 0 20 40 d4 _ hs4 S4.out (by omega) (by omega) (by omega) B0_20.out B20_40.out).mono ?_
  rintro _ w5 ⟨rfl, d5, S5, P, B⟩
  have hs5 : d5.size = N := by rw [P.1]; exact hs4
  have HP5 := Lib.hid P
  have B40_60 := Lib.hid (B40_60.out.on P (.inr (by omega)))
  have B60_N := Lib.hid (B60_N.out.on P (.inr (by omega)))
  have B0_40 := Lib.hid B
  clear P B S4
  go_wp2_with fail
  rw [rounds_succ]
  go_wp2_with fail
  rw [rounds_succ]
  go_wp2_with fail
  refine wp_loop_rounds 1 ?_
  rw [rounds_succ]
  go_wp2_with fail
  have B40_N : Hid (Blk lt 40 N d5) := by have h := B40_60.out; rw [show N = 60 by omega]; exact h
  refine (symG T'.out cap 0 40 N d5 _ hs5 S5.out (by omega) (by omega) (by omega) B0_40.out B40_N.out).mono ?_
  rintro _ w6 ⟨rfl, d6, S6, P, B⟩
  have hs6 : d6.size = N := by rw [P.1]; exact hs5
  have HP6 := Lib.hid P
  have B0_N := Lib.hid B
  clear P B S5
  go_wp2_with fail
  rw [rounds_succ]
  go_wp2_with fail
  go_end0
  have p0 : PermIn 0 N d0 d0 := permIn_refl _ _ _
  have p1 : PermIn 0 N d0 d1 := permIn_trans _ _ _ _ _ p0 (permIn_mono _ _ _ _ _ _ (by omega) (by omega) (by omega) HP1.out)
  have p2 : PermIn 0 N d0 d2 := permIn_trans _ _ _ _ _ p1 (permIn_mono _ _ _ _ _ _ (by omega) (by omega) (by omega) HP2.out)
  have p3 : PermIn 0 N d0 d3 := permIn_trans _ _ _ _ _ p2 (permIn_mono _ _ _ _ _ _ (by omega) (by omega) (by omega) HP3.out)
  have p4 : PermIn 0 N d0 d4 := permIn_trans _ _ _ _ _ p3 (permIn_mono _ _ _ _ _ _ (by omega) (by omega) (by omega) HP4.out)
  have p5 : PermIn 0 N d0 d5 := permIn_trans _ _ _ _ _ p4 (permIn_mono _ _ _ _ _ _ (by omega) (by omega) (by omega) HP5.out)
  have p6 : PermIn 0 N d0 d6 := permIn_trans _ _ _ _ _ p5 (permIn_mono _ _ _ _ _ _ (by omega) (by omega) (by omega) HP6.out)
  exact ⟨rfl, d6, S6.out, p6, B0_N.out⟩

theorem stable_any {n blk off N g : Nat} {cb : Array Value} {cf : Fin (n + 1) → Fin (n + 1) → Int} {lt : Fin (n + 1) → Fin (n + 1) → Bool} {d0 : Array (Fin (n + 1))} {w0 : World} (T : Told n blk off N g cb cf lt d0 w0)
    (cap : Nat) (S : SW enc1 w0 blk off d0 w0) (hf : ∀ t, t < N → (at' d0 t).val = t) : StableSays n blk off N g cb lt d0 w0 cap := by
  have h60 := T.hsz
  rcases Nat.lt_or_ge N 20 with h | h
  · exact stableA T cap S hf h
  rcases Nat.lt_or_ge N 21 with h' | h'
  · exact stableB T cap S hf (by omega)
  rcases Nat.lt_or_ge N 40 with h1 | h1
  · exact stableC T cap S hf ⟨by omega, h1⟩
  rcases Nat.lt_or_ge N 41 with h2 | h2
  · exact stableD T cap S hf (by omega)
  rcases Nat.lt_or_ge N 60 with h3 | h3
  · exact stableE T cap S hf ⟨by omega, h3⟩
  · exact stableF T cap S hf (by omega)
end Go.Proofs.Ytmmgejgmlhhfdaa
