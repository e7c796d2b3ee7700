/-
  The fixed answer at the end of each law of layer 2.
-/
import Derived.Test.YtnnhlhdijfhepaaWideAll
namespace Go.Proofs.Ytnnhlhdijfhepaa
open Go.RowKit


theorem i64_bounds {a : Int} (h : (Lit.int .i64 a).wf = true) : -9223372036854775808 ≤ a ∧ a ≤ 9223372036854775807 := by
  simp [Lit.wf, IntKind.min, IntKind.max, IntKind.signed, IntKind.bits] at h
  omega
theorem u64_bounds {a : Int} (h : (Lit.int .u64 a).wf = true) : 0 ≤ a ∧ a ≤ 18446744073709551615 := by
  simp [Lit.wf, IntKind.min, IntKind.max, IntKind.signed, IntKind.bits] at h
  omega
theorem u8_bounds {a : Int} (h : (Lit.int .u8 a).wf = true) : 0 ≤ a ∧ a ≤ 255 := by
  simp [Lit.wf, IntKind.min, IntKind.max, IntKind.signed, IntKind.bits] at h
  omega

theorem md1 : md 5 1 2 0 = (2, 0) := by decide
theorem md2 : md (-5) 1 2 2 = (-3, 0) := by decide
theorem md3 : md 5 1 2 3 = (2, 0) := by decide

set_option maxHeartbeats 800000 in
theorem awake_any (w : World) : Calls Try.prog 14 #[] w fun e w' => e = .returned (.bool true) ∧ Below w.heap.size w w' := by
  have M1 := Lib.hid (muldiv_at md1 (by omega) (by omega) (by omega) (by omega) (by omega) (by omega))
  have M2 := Lib.hid (muldiv_at md2 (by omega) (by omega) (by omega) (by omega) (by omega) (by omega))
  have M3 := Lib.hid (muldiv_at md3 (by omega) (by omega) (by omega) (by omega) (by omega) (by omega))
  have C1 := Lib.hid (fun w => wcmp_any 9223372036854775807 9223372036854775807 (-9223372036854775807) (-9223372036854775807) w (by omega) (by omega) (by omega) (by omega) (by omega) (by omega) (by omega) (by omega))
  go_enter Try.func14, Try.ntmps14
  go_wp2_with fail
  refine (M1.out _).mono ?_
  rintro _ w1 ⟨rfl, b1⟩
  go_wp2_with fail
  refine (M2.out _).mono ?_
  rintro _ w2 ⟨rfl, b2⟩
  go_wp2_with fail
  refine (M3.out _).mono ?_
  rintro _ w3 ⟨rfl, b3⟩
  go_wp2_with fail
  refine (C1.out _).mono ?_
  rintro _ _ ⟨rfl, rfl⟩
  rw [show Lib.compareInt (9223372036854775807 * 9223372036854775807) (-9223372036854775807 * -9223372036854775807) = 0 by decide]
  go_wp2_with fail
  go_ret
  exact ⟨rfl, below_step (below_step b1 b2) b3⟩
end Go.Proofs.Ytnnhlhdijfhepaa
