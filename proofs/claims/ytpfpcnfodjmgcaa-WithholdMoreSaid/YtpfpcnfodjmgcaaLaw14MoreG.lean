/-
  WithholdMore: with more taxable, and a greater base, nothing that is due is less; and never more of it than came.
-/
import Derived.Test.YtpfpcnfodjmgcaaGC
import Derived.Test.YtpfpcnfodjmgcaaGB
import Derived.Deep.QuietTactic
import Derived.BigQuiet
namespace Go.Proofs.Ytpfpcnfodjmgcaa
open Go.RowKit

set_option maxHeartbeats 6400000 in
set_option maxRecDepth 100000 in
/-- A scheme that is not right. -/
theorem lmore_no {A F : Option Addr} {n ca m cf : Nat} {a r : Nat → Int} {l : List PWh.Fund} {w : World} {u1 u2 u3 : Int} {T B K : Nat} (hA : SlP w A n a r) (hF : SlF w F m l) (h40 : n ≤ 40 ∧ m ≤ 40) (hR : ¬ PWh.Rt a r n l)
    (hu1 : 0 ≤ u1 ∧ u1 ≤ 18446744073709551615) (hu2 : 0 ≤ u2 ∧ u2 ≤ 18446744073709551615) (hu3 : 0 ≤ u3 ∧ u3 ≤ 18446744073709551615) (e1 : u1 % 281474976710656 = (T : Int)) (e2 : u2 % 281474976710656 = (B : Int)) (e3 : u3 % 281474976710656 = (K : Int)) :
    Calls Try.prog 8 #[.agg #[.slice A n ca, .slice F m cf], .int .u64 u1, .int .u64 u2, .int .u64 u3] w fun e w' => e = .returned (.bool true) ∧ Below w.heap.size w w' := by
  have r1 : T < 281474976710656 := by omega
  have r2 : B < 281474976710656 := by omega
  have r3 : K < 281474976710656 := by omega
  have C1 : Hid (∀ w' t b, Below w.heap.size w w' → Calls Try.prog 11 #[.agg #[.slice A n ca, .slice F m cf], .int .i64 t, .int .i64 b] w' (YrR 0 0 0 [] [] 1 w')) := Lib.hid (fun w' t b h => wdue_wrong (hA.on h) (hF.on h) hR)
  have SM := Lib.hid (fun w => small_yes (A := A) (F := F) (ca := ca) (cf := cf) w h40)
  obtain ⟨h10, h11⟩ := hu1; obtain ⟨h20, h21⟩ := hu2; obtain ⟨h30, h31⟩ := hu3
  clear hA hF hR h40
  go_enter Try.func8, Try.ntmps8
  go_upto_region 2 with fail
  have XS := Box.new w 25 [.slice A n ca, .slice F m cf]
  have b1 : Below w.heap.size w (w.alloc (.cells #[.slice A n ca, .slice F m cf] 25)) := (Below.refl _ _).alloc (Nat.le_refl _) _
  obtain ⟨L, hL⟩ : ∃ L, w.heap.size = L := ⟨_, rfl⟩
  rw [hL] at XS ⊢
  generalize w.alloc (.cells [.slice A n ca, .slice F m cf].toArray 25) = w1 at *
  have XS1 := Lib.hid XS; have B1 := Lib.hid b1
  clear XS b1 hL
  obtain ⟨c0, c1⟩ := box2 XS1.out
  go_wp2_with fail
  refine (SM.out _).mono ?_
  rintro _ w2 ⟨rfl, b2⟩
  have XS2 := Lib.hid (XS1.out.on b2); have B2 := Lib.hid (below_step B1.out b2)
  clear b2 XS1 B1 c0 c1 SM
  obtain ⟨c0, c1⟩ := box2 XS2.out
  go_wp2_with fail
  refine (C1.out _ _ _ B2.out).mono ?_
  rintro _ w3 ⟨p, o, rfl, v1, v2, b3, -, -⟩
  obtain ⟨P, cp, rfl, -, -, -⟩ := v1
  obtain ⟨O, co, rfl, -, -, -⟩ := v2
  unfold yrV
  simp only [List.length_nil]
  go_upto_region 5 with fail
  have b4 : Below w3.heap.size w3 (w3.alloc (.cells #[.int .i64 0, .int .i64 0, .int .i64 0, .slice P 0 cp, .slice O 0 co] 30)) := (Below.refl _ _).alloc (Nat.le_refl _) _
  have XS4 := Lib.hid ((XS2.out.on b3).on b4); have B4 := Lib.hid (below_step (below_step B2.out b3) b4)
  generalize w3.alloc (.cells #[.int .i64 0, .int .i64 0, .int .i64 0, .slice P 0 cp, .slice O 0 co] 30) = w4 at *
  clear b3 b4 XS2 B2 c0 c1
  obtain ⟨c0, c1⟩ := box2 XS4.out
  go_wp2_with fail
  refine (C1.out _ _ _ B4.out).mono ?_
  rintro _ w5 ⟨p', o', rfl, v1, v2, b5, -, -⟩
  obtain ⟨P', cp', rfl, -, -, -⟩ := v1
  obtain ⟨O', co', rfl, -, -, -⟩ := v2
  have B5 := Lib.hid ((below_step B4.out b5).alloc (below_step B4.out b5).size (.cells #[.int .i64 0, .int .i64 0, .int .i64 0, .slice P' 0 cp', .slice O' 0 co'] 30))
  clear b5 XS4 B4 c0 c1 C1
  unfold yrV
  simp only [List.length_nil] at B5 ⊢
  go_wp2_with fail
  refine (awake_any _).mono ?_
  rintro _ w9 ⟨rfl, b9⟩
  have B9 := Lib.hid (below_step B5.out b9)
  clear b9
  go_wp2_with fail
  go_ret
  exact ⟨rfl, B9.out⟩

set_option maxHeartbeats 6400000 in
set_option maxRecDepth 100000 in
/-- A scheme that is right. -/
theorem lmore_yes {A F : Option Addr} {n ca m cf : Nat} {a r : Nat → Int} {l : List PWh.Fund} {w : World} {u1 u2 u3 : Int} {T B K : Nat} (hA : SlP w A n a r) (hF : SlF w F m l) (h40 : n ≤ 40 ∧ m ≤ 40) (hR : PWh.Rt a r n l)
    (hu1 : 0 ≤ u1 ∧ u1 ≤ 18446744073709551615) (hu2 : 0 ≤ u2 ∧ u2 ≤ 18446744073709551615) (hu3 : 0 ≤ u3 ∧ u3 ≤ 18446744073709551615) (e1 : u1 % 281474976710656 = (T : Int)) (e2 : u2 % 281474976710656 = (B : Int)) (e3 : u3 % 281474976710656 = (K : Int)) :
    Calls Try.prog 8 #[.agg #[.slice A n ca, .slice F m cf], .int .u64 u1, .int .u64 u2, .int .u64 u3] w fun e w' => e = .returned (.bool true) ∧ Below w.heap.size w w' := by
  have r1 : T < 281474976710656 := by omega
  have r2 : B < 281474976710656 := by omega
  have r3 : K < 281474976710656 := by omega
  have tm := PBr.tax_more (x := (T : Int)) (y := (T : Int) + K) hR.1 (by omega) (by omega)
  have tl := PBr.tax_le (x := (T : Int)) hR.1 (by omega)
  have tl2 := tax_mid (t := (T : Int) + K) hR.1 (by omega)
  obtain ⟨X, hX⟩ : ∃ X, PBr.tax a r n (T : Int) = X := ⟨_, rfl⟩
  obtain ⟨X2, hX2⟩ : ∃ X, PBr.tax a r n ((T : Int) + K) = X := ⟨_, rfl⟩
  have C1 : Hid (∀ w', Below w.heap.size w w' → Calls Try.prog 11 #[.agg #[.slice A n ca, .slice F m cf], .int .i64 T, .int .i64 B] w' (YrR T B (X : Nat) (PWh.paid l B) (PWh.owed l B) 0 w')) := Lib.hid (fun w' h => by rw [← hX]; exact wdue_yes (hA.on h) (hF.on h) hR (by unfold Nr; omega) (by unfold Nr; omega))
  have C2 : Hid (∀ w', Below w.heap.size w w' → Calls Try.prog 11 #[.agg #[.slice A n ca, .slice F m cf], .int .i64 ((T : Int) + K), .int .i64 ((B : Int) + K)] w' (YrR (T + K) (B + K) (X2 : Nat) (PWh.paid l (B + K)) (PWh.owed l (B + K)) 0 w')) := Lib.hid (fun w' h => by rw [← hX2]; exact wdue_yes (hA.on h) (hF.on h) hR (by unfold Nr; omega) (by unfold Nr; omega))
  have SM := Lib.hid (fun w => small_yes (A := A) (F := F) (ca := ca) (cf := cf) w h40)
  rw [hX] at tm tl; rw [hX2] at tm tl2
  have d1 : decide (T < X) = false := decide_eq_false (by omega)
  have d2 : decide (X2 < X) = false := decide_eq_false (by omega)
  have mm : ((m : Int) != (m : Int)) = false := bne_self_eq_false _
  have n1 : ¬ T < X := by omega
  have n2 : ¬ X2 < X := by omega
  have HF := Lib.hid hF; have HR := Lib.hid hR; have hl := Lib.hid hF.len
  have hm6 : m ≤ 6 := by have := hR.2.1; have := hl.out; omega
  have hpl : (PWh.paid l B).length = m := by rw [PWh.paid_len, hl.out]
  have hol : (PWh.owed l B).length = m := by rw [PWh.owed_len, hl.out]
  have hpl2 : (PWh.paid l (B + K)).length = m := by rw [PWh.paid_len, hl.out]
  have hol2 : (PWh.owed l (B + K)).length = m := by rw [PWh.owed_len, hl.out]
  have HPL := Lib.hid hpl; have HOL := Lib.hid hol; have HPL2 := Lib.hid hpl2; have HOL2 := Lib.hid hol2
  obtain ⟨h10, h11⟩ := hu1; obtain ⟨h20, h21⟩ := hu2; obtain ⟨h30, h31⟩ := hu3
  clear hA hF hR h40 hX hX2 hpl hol hpl2 hol2 tm tl
  go_enter Try.func8, Try.ntmps8
  go_upto_region 2 with fail
  have XS := Box.new w 25 [.slice A n ca, .slice F m cf]
  have b1 : Below w.heap.size w (w.alloc (.cells #[.slice A n ca, .slice F m cf] 25)) := (Below.refl _ _).alloc (Nat.le_refl _) _
  obtain ⟨L, hL⟩ : ∃ L, w.heap.size = L := ⟨_, rfl⟩
  rw [hL] at XS ⊢
  generalize w.alloc (.cells [.slice A n ca, .slice F m cf].toArray 25) = w1 at *
  have XS1 := Lib.hid XS; have B1 := Lib.hid b1
  clear XS b1 hL
  obtain ⟨c0, c1⟩ := box2 XS1.out
  go_wp2_with fail
  refine (SM.out _).mono ?_
  rintro _ w2 ⟨rfl, b2⟩
  have XS2 := Lib.hid (XS1.out.on b2); have B2 := Lib.hid (below_step B1.out b2)
  clear b2 XS1 B1 c0 c1 SM
  obtain ⟨c0, c1⟩ := box2 XS2.out
  go_wp2_with fail
  refine (C1.out _ B2.out).mono ?_
  rintro _ w3 ⟨p, o, rfl, v1, v2, b3, -, -⟩
  obtain ⟨P, cp, rfl, -, -, s1⟩ := v1
  obtain ⟨O, co, rfl, -, -, s2⟩ := v2
  simp only [HPL.out, HOL.out] at s1 s2 ⊢
  unfold yrV
  go_upto_region 5 with fail
  have b4 : Below w3.heap.size w3 (w3.alloc (.cells #[.int .i64 T, .int .i64 B, .int .i64 (X : Int), .slice P m cp, .slice O m co] 30)) := (Below.refl _ _).alloc (Nat.le_refl _) _
  have XY := Box.new w3 30 [.int .i64 T, .int .i64 B, .int .i64 (X : Int), .slice P m cp, .slice O m co]
  have XS4 := Lib.hid ((XS2.out.on b3).on b4); have B4 := Lib.hid (below_step (below_step B2.out b3) b4)
  have S1 := Lib.hid (s1.on b4); have S2 := Lib.hid (s2.on b4)
  obtain ⟨Y, hY⟩ : ∃ Y, w3.heap.size = Y := ⟨_, rfl⟩
  rw [hY] at XY ⊢
  generalize w3.alloc (.cells [.int .i64 T, .int .i64 B, .int .i64 (X : Int), .slice P m cp, .slice O m co].toArray 30) = w4 at *
  have XY4 := Lib.hid XY
  clear b3 b4 XS2 B2 c0 c1 XY hY s1 s2 C1
  obtain ⟨c0, c1⟩ := box2 XS4.out
  go_wp2_with fail
  refine (C2.out _ B4.out).mono ?_
  rintro _ w5 ⟨p', o', rfl, v1, v2, b5, -, -⟩
  obtain ⟨P', cp', rfl, -, -, s3⟩ := v1
  obtain ⟨O', co', rfl, -, -, s4⟩ := v2
  simp only [HPL2.out, HOL2.out] at s3 s4 ⊢
  unfold yrV
  go_upto_region 6 with fail
  have b6 : Below w5.heap.size w5 (w5.alloc (.cells #[.int .i64 ((T : Int) + K), .int .i64 ((B : Int) + K), .int .i64 (X2 : Int), .slice P' m cp', .slice O' m co'] 30)) := (Below.refl _ _).alloc (Nat.le_refl _) _
  have XZ := Box.new w5 30 [.int .i64 ((T : Int) + K), .int .i64 ((B : Int) + K), .int .i64 (X2 : Int), .slice P' m cp', .slice O' m co']
  have XS6 := Lib.hid ((XS4.out.on b5).on b6); have XY6 := Lib.hid ((XY4.out.on b5).on b6); have B6 := Lib.hid (below_step (below_step B4.out b5) b6)
  have S16 := Lib.hid ((S1.out.on b5).on b6); have S26 := Lib.hid ((S2.out.on b5).on b6); have S36 := Lib.hid (s3.on b6); have S46 := Lib.hid (s4.on b6)
  obtain ⟨Z, hZ⟩ : ∃ Y, w5.heap.size = Y := ⟨_, rfl⟩
  rw [hZ] at XZ ⊢
  generalize w5.alloc (.cells [.int .i64 ((T : Int) + K), .int .i64 ((B : Int) + K), .int .i64 (X2 : Int), .slice P' m cp', .slice O' m co'].toArray 30) = w6 at *
  have XZ6 := Lib.hid XZ
  clear b5 b6 XS4 XY4 B4 S1 S2 c0 c1 XZ hZ s3 s4 C2
  obtain ⟨c0, c1⟩ := box2 XS6.out
  obtain ⟨y0, y1, y2, y3, y4⟩ := box5 XY6.out
  obtain ⟨z0, z1, z2, z3, z4⟩ := box5 XZ6.out
  go_wp2_with fail
  go_loopw [115] (fun i wr => ∃ k : Nat, k ≤ m ∧ i = .int .i64 k ∧ Hid (Below w6.heap.size w6 wr)) (fun i _ => m - (intOf i).toNat)
  case atStart => exact ⟨0, Nat.zero_le _, rfl, (show Hid _ from Below.refl _ _)⟩
  case round =>
    clear c0 c1 y0 y1 y2 y3 y4 z0 z1 z2 z3 z4 d1 d2 n1 n2
    obtain ⟨k, hk, rfl, HW⟩ := hrel
    by_cases hlt : k < m
    · have HWw := Lib.hid (below_step B6.out HW.out)
      obtain ⟨c0, c1⟩ := box2 (XS6.out.on HW.out)
      obtain ⟨y0, y1, y2, y3, y4⟩ := box5 (XY6.out.on HW.out)
      obtain ⟨z0, z1, z2, z3, z4⟩ := box5 (XZ6.out.on HW.out)
      obtain ⟨bf, off, rfl, hc⟩ := HF.out.cells hlt
      have hkl : k < l.length := by rw [hl.out]; exact hlt
      obtain ⟨-, -, g3⟩ := hc k hkl
      replace g3 := (HWw.out.cell (World.block_lt_of_cell? w _ g3)).trans g3
      obtain ⟨bp, op, rfl, h1⟩ := sl_cell (S16.out.on HW.out) hlt
      obtain ⟨bo, oo, rfl, h2⟩ := sl_cell (S26.out.on HW.out) hlt
      obtain ⟨bp2, op2, rfl, h3⟩ := sl_cell (S36.out.on HW.out) hlt
      obtain ⟨bo2, oo2, rfl, h4⟩ := sl_cell (S46.out.on HW.out) hlt
      have x1 := h1 k hlt; have x2 := h2 k hlt; have x3 := h3 k hlt; have x4 := h4 k hlt
      rw [PWh.paid_at hkl] at x1 x3
      rw [PWh.owed_at hkl] at x2 x4
      have hok := HR.out.2.2 k hkl hkl
      obtain ⟨f, hf⟩ : ∃ f, l[k] = f := ⟨_, rfl⟩
      rw [hf] at g3 x1 x2 x3 x4 hok
      obtain ⟨x, y, z⟩ := f
      dsimp only at g3 x1 x2 x3 x4
      obtain ⟨ok1, ok2, ok3⟩ := hok
      dsimp only at ok1 ok2 ok3
      obtain ⟨Q, rfl⟩ : ∃ Q : Nat, z = (Q : Int) := ⟨z.toNat, by omega⟩
      have p1 := PWh.part_below (b := (B : Int)) (c := (Q : Int)) ok1.2 (by omega) ok3
      have p2 := PWh.part_mono (b := (B : Int)) (d := (B : Int) + K) (R := x) (c := (Q : Int)) (by omega)
      have p3 := PWh.part_mono (b := (B : Int)) (d := (B : Int) + K) (R := y) (c := (Q : Int)) (by omega)
      have p4 := PWh.part_ceil (b := (B : Int) + K) (c := (Q : Int)) ok1.2 ok3
      generalize PWh.part (B : Int) x (Q : Int) = a1 at *
      generalize PWh.part (B : Int) y (Q : Int) = a2 at *
      generalize PWh.part ((B : Int) + K) x (Q : Int) = a3 at *
      generalize PWh.part ((B : Int) + K) y (Q : Int) = a4 at *
      have dd1 : decide (B < a1) = false := decide_eq_false (by omega)
      have dd2 : decide (a3 < a1) = false := decide_eq_false (by omega)
      have dd3 : decide (a4 < a2) = false := decide_eq_false (by omega)
      have dd4 : decide (Q < a3) = false := decide_eq_false (by omega)
      have dd5 : decide ((a1 : Int) < 0) = false := decide_eq_false (by omega)
      have i1 : (0 : Int) ≤ (k : Int) := by omega
      have i2 : (k : Int) < (m : Int) := by omega
      clear hc h1 h2 h3 h4 hf p1 p2 p3 p4 ok1 ok2 ok3
      go_wp2_with fail
      go_quiet (fail)
      go_wp2_with fail
      exact ⟨⟨k + 1, by omega, by congr 1, Lib.hid (below_drewN HW.out _)⟩, by simp [intOf]; omega⟩
    · obtain rfl : k = m := by omega
      go_wp2_with fail
      refine (awake_any _).mono ?_
      rintro _ w9 ⟨rfl, b9⟩
      have B9 := Lib.hid (below_step (below_step B6.out HW.out) b9)
      clear b9
      go_wp2_with fail
      go_ret
      exact ⟨rfl, B9.out⟩

set_option maxHeartbeats 3200000 in
set_option maxRecDepth 100000 in
theorem lmore_walk (A F : Option Addr) (n ca m cf : Nat) (a r : Nat → Int) (l : List PWh.Fund) (u1 u2 u3 : Int) (w : World) (hA : SlP w A n a r) (hF : SlF w F m l) (h1 : (Lit.int .u64 u1).wf = true) (h2 : (Lit.int .u64 u2).wf = true) (h3 : (Lit.int .u64 u3).wf = true) :
    Calls Try.prog 8 #[.agg #[.slice A n ca, .slice F m cf], .int .u64 u1, .int .u64 u2, .int .u64 u3] w fun e w' => e = .returned (.bool true) ∧ Below w.heap.size w w' := by
  have b1 := u64_bounds h1; have b2 := u64_bounds h2; have b3 := u64_bounds h3
  by_cases h40 : n ≤ 40 ∧ m ≤ 40
  · by_cases hx : PWh.Rt a r n l
    · exact lmore_yes (T := (u1 % 281474976710656).toNat) (B := (u2 % 281474976710656).toNat) (K := (u3 % 281474976710656).toNat) hA hF h40 hx b1 b2 b3 (by omega) (by omega) (by omega)
    · exact lmore_no (T := (u1 % 281474976710656).toNat) (B := (u2 % 281474976710656).toNat) (K := (u3 % 281474976710656).toNat) hA hF h40 hx b1 b2 b3 (by omega) (by omega) (by omega)
  · have SM := Lib.hid (fun w => small_no (A := A) (F := F) (ca := ca) (cf := cf) w h40)
    obtain ⟨h10, h11⟩ := b1; obtain ⟨h20, h21⟩ := b2; obtain ⟨h30, h31⟩ := b3
    clear hA hF h40
    go_enter Try.func8, Try.ntmps8
    go_wp2_with fail
    refine (SM.out _).mono ?_
    rintro _ w2 ⟨rfl, b2⟩
    have B2 := Lib.hid (below_step ((Below.refl w.heap.size w).alloc (Nat.le_refl _) _) b2)
    clear b2
    go_wp2_with fail
    refine (awake_any _).mono ?_
    rintro _ w3 ⟨rfl, b3⟩
    have B3 := Lib.hid (below_step B2.out b3)
    clear b3
    go_wp2_with fail
    go_ret
    exact ⟨rfl, B3.out⟩
end Go.Proofs.Ytpfpcnfodjmgcaa
