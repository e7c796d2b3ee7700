/-
  WithholdFlat: by one row and one fund what is due is that part of what came; above the ceiling the fund has no more.
-/
import Derived.Test.YtpfpcnfodjmgcaaGC
import Derived.StillTailTactics
namespace Go.Proofs.Ytpfpcnfodjmgcaa
open Go.RowKit

/-- The scheme of one row and one fund lies in three new blocks. -/
theorem flat_world (w : World) (R x y z : Int) (hR : -9223372036854775808 ≤ R ∧ R ≤ 9223372036854775807) (hI : PWh.In ⟨x, y, z⟩) : ∃ w1, (((w.alloc (.cells #[.int .i64 0, .int .i64 R] 54)).alloc (.cells #[.int .i64 x, .int .i64 y, .int .i64 z] 56)).alloc (.cells #[.slice (some ⟨w.heap.size, 0, none⟩) 1 1, .slice (some ⟨w.heap.size + 1, 0, none⟩) 1 1] 25)) = w1 ∧
    SlP w1 (some ⟨w.heap.size, 0, none⟩) 1 (fun _ => 0) (fun _ => R) ∧ SlF w1 (some ⟨w.heap.size + 1, 0, none⟩) 1 [⟨x, y, z⟩] ∧ Box w1 (w.heap.size + 2) [.slice (some ⟨w.heap.size, 0, none⟩) 1 1, .slice (some ⟨w.heap.size + 1, 0, none⟩) 1 1] ∧ Below w.heap.size w w1 := by
  refine ⟨_, rfl, ?_, ?_, Box.new' _ _ [.slice (some ⟨w.heap.size, 0, none⟩) 1 1, .slice (some ⟨w.heap.size + 1, 0, none⟩) 1 1] (by simp), (((Below.refl _ _).alloc (Nat.le_refl _) _).alloc (by simp) _).alloc (by simp; omega) _⟩
  · exact ((slp_one w 54 0 R (by omega) hR).on ((Below.refl _ _).alloc (Nat.le_refl _) _)).on ((Below.refl _ _).alloc (Nat.le_refl _) _)
  · have := slf_one (w.alloc (.cells #[.int .i64 0, .int .i64 R] 54)) 56 x y z hI
    have := this.on ((Below.refl _ _).alloc (Nat.le_refl _) (.cells #[.slice (some ⟨w.heap.size, 0, none⟩) 1 1, .slice (some ⟨w.heap.size + 1, 0, none⟩) 1 1] 25))
    simpa using this
theorem flat_part {B F C : Nat} : PWh.part (B : Int) (F : Int) (C : Int) = min B C * F / 10000 := by
  unfold PWh.part PWh.cnt
  rw [Int.toNat_natCast, show (min (max (B : Int) 0) (C : Int)).toNat = min B C by omega]

set_option maxHeartbeats 6400000 in
set_option maxRecDepth 100000 in
theorem lflat_in (bps fund taxable base ceiling : Int) (R F T B C : Nat) (w : World) (hb : 0 ≤ bps ∧ bps ≤ 65535) (hf : 0 ≤ fund ∧ fund ≤ 65535) (ht : 0 ≤ taxable ∧ taxable ≤ 18446744073709551615) (hB : 0 ≤ base ∧ base ≤ 18446744073709551615) (hc : 0 ≤ ceiling ∧ ceiling ≤ 18446744073709551615)
    (e1 : bps % 10001 = (R : Int)) (e2 : fund % 10001 = (F : Int)) (e3 : taxable % 1099511627776 = (T : Int)) (e4 : base % 1099511627776 = (B : Int)) (e5 : ceiling % 1099511627776 = (C : Int)) :
    Calls Try.prog 6 #[.int .u16 bps, .int .u16 fund, .int .u64 taxable, .int .u64 base, .int .u64 ceiling] w fun e w' => e = .returned (.bool true) ∧ Below w.heap.size w w' := by
  have r1 : R ≤ 10000 := by omega
  have r2 : F ≤ 10000 := by omega
  have r3 : T < 1099511627776 := by omega
  have r4 : B < 1099511627776 := by omega
  have r5 : C < 1099511627776 := by omega
  obtain ⟨K, hK⟩ : ∃ K, min B C = K := ⟨_, rfl⟩
  obtain ⟨M, hM⟩ : ∃ M, T * R = M := ⟨_, rfl⟩
  obtain ⟨Q, hQ⟩ : ∃ M, K * F = M := ⟨_, rfl⟩
  have m1 : M ≤ 1099511627776 * 10000 := by rw [← hM]; exact Nat.mul_le_mul (by omega) r1
  have q1 : Q ≤ 1099511627776 * 10000 := by rw [← hQ]; exact Nat.mul_le_mul (by omega) r2
  obtain ⟨M', hM'⟩ : ∃ x, M / 10000 = x := ⟨_, rfl⟩
  obtain ⟨Q', hQ'⟩ : ∃ x, Q / 10000 = x := ⟨_, rfl⟩
  have hRt : PWh.Rt (fun _ => 0) (fun _ => (R : Int)) 1 [⟨(F : Int), (F : Int), (C : Int)⟩] := ⟨PBr.rt_one (by omega) (by omega), by simp, fun i hi _ => by
    obtain rfl : i = 0 := by simp at hi; omega
    show PWh.Ok ⟨(F : Int), (F : Int), (C : Int)⟩
    exact ⟨⟨by simp, by simp; omega⟩, ⟨by simp, by simp; omega⟩, by simp⟩⟩
  have D1 : Hid (∀ X Y w, SlP w X 1 (fun _ => 0) (fun _ => (R : Int)) → SlF w Y 1 [⟨(F : Int), (F : Int), (C : Int)⟩] → Calls Try.prog 11 #[.agg #[.slice X 1 1, .slice Y 1 1], .int .i64 T, .int .i64 B] w (YrR T B (M' : Nat) [(Q' : Nat)] [(Q' : Nat)] 0 w)) := Lib.hid (fun X Y w hx hy => by
    have := wdue_yes (ca := 1) (cf := 1) (t := (T : Int)) (b := (B : Int)) hx hy hRt (by unfold Nr; omega) (by unfold Nr; omega)
    rw [PBr.tax_one _ (by omega), Int.toNat_natCast, Int.toNat_natCast, hM, hM'] at this
    simp only [PWh.paid, PWh.owed, List.map_cons, List.map_nil, flat_part, hK, hQ, hQ'] at this
    exact this)
  have L1 := Lib.hid (flat_world w (R : Int) F F C (by omega) (by unfold PWh.In; simp; omega))
  have k1 : min (B : Int) (C : Int) = (K : Int) := by omega
  have p1 : (T : Int) * (R : Int) = (M : Int) := by rw [← hM]; simp
  have p2 : (K : Int) * (F : Int) = (Q : Int) := by rw [← hQ]; simp
  have d1 : (M : Int) / 10000 = (M' : Int) := by omega
  have d2 : (Q : Int) / 10000 = (Q' : Int) := by omega
  have t1 : (M : Int).tdiv 10000 = (M' : Int) := by rw [Int.tdiv_eq_ediv_of_nonneg (by omega)]; exact d1
  have t2 : (Q : Int).tdiv 10000 = (Q' : Int) := by rw [Int.tdiv_eq_ediv_of_nonneg (by omega)]; exact d2
  have w1' : IntKind.i64.wrap (M : Int) = (M : Int) := by rw [IntKind.wrap_i64]; omega
  have w2' : IntKind.i64.wrap (Q : Int) = (Q : Int) := by rw [IntKind.wrap_i64]; omega
  have w3' : IntKind.i64.wrap (M' : Int) = (M' : Int) := by rw [IntKind.wrap_i64]; omega
  have w4' : IntKind.i64.wrap (Q' : Int) = (Q' : Int) := by rw [IntKind.wrap_i64]; omega
  have b1' : ((M' : Int) == (M' : Int)) = true := beq_self_eq_true _
  have b2' : ((Q' : Int) == (Q' : Int)) = true := beq_self_eq_true _
  have b3' : ((T : Int) == (T : Int)) = true := beq_self_eq_true _
  have b4' : ((B : Int) == (B : Int)) = true := beq_self_eq_true _
  obtain ⟨hb0, hb1⟩ := hb; obtain ⟨hf0, hf1⟩ := hf; obtain ⟨ht0, ht1⟩ := ht; obtain ⟨hB0, hB1⟩ := hB; obtain ⟨hc0, hc1⟩ := hc
  clear hK hM hQ hM' hQ' hRt
  go_enter Try.func6, Try.ntmps6
  go_upto_region 4 with fail
  obtain ⟨w1, hw1, hA, hF, hX, hbw⟩ := L1.out
  rw [hw1]
  obtain ⟨L, hL⟩ : ∃ L, w.heap.size = L := ⟨_, rfl⟩
  rw [hL] at hA hF hX ⊢
  have HA := Lib.hid hA; have HF := Lib.hid hF; have HX := Lib.hid hX; have B1 := Lib.hid hbw; have HLw := Lib.hid hL
  clear hA hF hX hbw hw1 hL L1
  obtain ⟨c0, c1⟩ := box2 HX.out
  go_wp2_with fail
  refine (D1.out _ _ _ HA.out HF.out).mono ?_
  rintro _ w2 ⟨p, o, rfl, v1, v2, b2, -, -⟩
  obtain ⟨bp, op, kp, rfl, q2⟩ := vsl_one v1
  obtain ⟨bo, oo, ko, rfl, q3⟩ := vsl_one v2
  have B2 := Lib.hid (below_step B1.out b2)
  have Q2 := Lib.hid q2; have Q3 := Lib.hid q3
  clear b2 c0 c1 q2 q3 v1 v2 HA HF HX B1 D1
  unfold yrV
  go_upto_region 5 with fail
  have XY := Box.new w2 30 [.int .i64 T, .int .i64 B, .int .i64 (M' : Int), .slice (some ⟨bp, op, none⟩) 1 kp, .slice (some ⟨bo, oo, none⟩) 1 ko]
  have b3 : Below w2.heap.size w2 (w2.alloc (.cells #[.int .i64 T, .int .i64 B, .int .i64 (M' : Int), .slice (some ⟨bp, op, none⟩) 1 kp, .slice (some ⟨bo, oo, none⟩) 1 ko] 30)) := (Below.refl _ _).alloc (Nat.le_refl _) _
  have q2 := keepc b3 Q2.out; have q3 := keepc b3 Q3.out
  have B3 := Lib.hid (below_step B2.out b3)
  obtain ⟨Y, hY⟩ : ∃ Y, w2.heap.size = Y := ⟨_, rfl⟩
  rw [hY] at XY ⊢
  generalize w2.alloc (.cells [.int .i64 T, .int .i64 B, .int .i64 (M' : Int), .slice (some ⟨bp, op, none⟩) 1 kp, .slice (some ⟨bo, oo, none⟩) 1 ko].toArray 30) = w3 at *
  obtain ⟨z0, z1, z2, z3, z4⟩ := box5 XY
  clear b3 hY XY Q2 Q3 B2
  go_wp2_with fail
  go_still_tail 42, (by kernel_rfl)
  change wpList _ _ _ _ _ w3.drew
  have B4 := Lib.hid (B3.out.drew)
  clear z0 z1 z2 z3 z4 q2 q3 B3
  generalize w3.drew = w4 at *
  go_wp2_with fail
  refine (awake_any _).mono ?_
  rintro _ w5 ⟨rfl, b5⟩
  have B5 := Lib.hid (below_step B4.out b5)
  clear b5
  go_wp2_with fail
  go_ret
  exact ⟨rfl, B5.out⟩
theorem lflat_walk (bps fund taxable base ceiling : Int) (w : World) (h1 : (Lit.int .u16 bps).wf = true) (h2 : (Lit.int .u16 fund).wf = true) (h3 : (Lit.int .u64 taxable).wf = true) (h4 : (Lit.int .u64 base).wf = true) (h5 : (Lit.int .u64 ceiling).wf = true) :
    Calls Try.prog 6 #[.int .u16 bps, .int .u16 fund, .int .u64 taxable, .int .u64 base, .int .u64 ceiling] w fun e w' => e = .returned (.bool true) ∧ Below w.heap.size w w' := by
  have a1 := u16_bounds h1; have a2 := u16_bounds h2; have a3 := u64_bounds h3; have a4 := u64_bounds h4; have a5 := u64_bounds h5
  exact lflat_in bps fund taxable base ceiling (bps % 10001).toNat (fund % 10001).toNat (taxable % 1099511627776).toNat (base % 1099511627776).toNat (ceiling % 1099511627776).toNat w a1 a2 a3 a4 a5 (by omega) (by omega) (by omega) (by omega) (by omega)
end Go.Proofs.Ytpfpcnfodjmgcaa
