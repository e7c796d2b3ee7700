/-
  What the reference of layer 5 answers: whether a table is right, a row's part, the tax.
-/
import Derived.Test.YtpfpcnfodjmgcaaBrMath
import Derived.Test.YtpfpcnfodjmgcaaPairKit
import Derived.Deep.QuietTactic
import Derived.BigQuiet
namespace Go.Proofs.Ytpfpcnfodjmgcaa
open Go.RowKit

set_option maxHeartbeats 3200000 in
set_option maxRecDepth 100000 in
theorem reftable_in (b off n cap : Nat) (a r : Nat → Int) (w : World) (hc : ∀ i, i < n → w.cell? ⟨b, off + i * 2, none⟩ = some (.int .i64 (a i)) ∧ w.cell? ⟨b, off + i * 2 + 1, none⟩ = some (.int .i64 (r i))) (h0 : 0 < n) (h12 : n ≤ 12) (ha : a 0 = 0) (bb : Bool) (hb : bb = true ↔ PBr.OkTo a r n) :
    Calls Try.prog 23 #[.slice (some ⟨b, off, none⟩) n cap] w fun e w' => e = .returned (.bool bb) ∧ ∃ q, w' = w.drewN q := by
  have HC := Lib.hid hc
  have HB := Lib.hid hb
  have c0 := (hc 0 h0).1
  rw [ha] at c0
  have n1 : ¬ (n : Int) = 0 := by omega
  have n1b : ((n : Int) == 0) = false := by rw [beq_eq_false_iff_ne]; omega
  have n2 : ¬ (12 : Int) < (n : Int) := by omega
  have n3 : (0 : Int) < (n : Int) := by omega
  simp only [Nat.zero_mul, Nat.add_zero] at c0
  clear hc hb
  go_enter Try.func23, Try.ntmps23
  go_wp2_with fail
  go_loopw [3] (fun i wr => ∃ (k q : Nat), k ≤ n ∧ i = .int .i64 k ∧ Hid (PBr.OkTo a r k) ∧ wr = w.drewN q) (fun i _ => n - (intOf i).toNat)
  case atStart => exact ⟨0, 0, Nat.zero_le _, rfl, (show Hid _ from fun i hi => by omega), rfl⟩
  case round =>
    obtain ⟨k, q0, hk, rfl, HK, rfl⟩ := hrel
    by_cases hlt : k < n
    · obtain ⟨c1, c2⟩ := HC.out k hlt
      obtain ⟨x, hx⟩ : ∃ x, a k = x := ⟨_, rfl⟩
      obtain ⟨y, hy⟩ : ∃ x, r k = x := ⟨_, rfl⟩
      rw [hx] at c1; rw [hy] at c2
      have i1 : (0 : Int) ≤ (k : Int) := by omega
      have i2 : (k : Int) < (n : Int) := by omega
      by_cases r1 : y < 0
      · have HF : Hid (bb = false) := Lib.hid (Bool.eq_false_iff.2 (fun hbb => by have := ((HB.out.1 hbb) k hlt).1.1; rw [hy] at this; omega))
        clear c1 hx hy
        go_wp2_with fail
        go_quiet (fail)
        go_wp2_with fail
        go_ret
        exact ⟨by rw [HF.out]; rfl, _, by first | rfl | exact World.drewN_drewN _ _ _⟩
      by_cases r2 : 10000 < y
      · have HF : Hid (bb = false) := Lib.hid (Bool.eq_false_iff.2 (fun hbb => by have := ((HB.out.1 hbb) k hlt).1.2; rw [hy] at this; omega))
        have d1 : decide (y < 0) = false := decide_eq_false r1
        have d2 : decide (10000 < y) = true := decide_eq_true r2
        clear c1 hx hy r1 r2
        go_wp2_with fail
        go_quiet (fail)
        go_wp2_with fail
        go_ret
        exact ⟨by rw [HF.out]; rfl, _, by first | rfl | exact World.drewN_drewN _ _ _⟩
      have d1 : decide (y < 0) = false := decide_eq_false r1
      have d2 : decide (10000 < y) = false := decide_eq_false r2
      by_cases k0 : k = 0
      · subst k0
        have HN : Hid (PBr.OkTo a r (0 + 1)) := Lib.hid (HK.out.next ⟨by rw [hy]; omega, fun h => absurd h (Nat.lt_irrefl _)⟩)
        clear c1 hx hy r1 r2
        go_wp2_with fail
        go_quiet (fail)
        go_wp2_with fail
        exact ⟨⟨1, _, by omega, rfl, HN, rfl⟩, by simp [intOf]; omega⟩
      · obtain ⟨j, hj⟩ : ∃ j, j = k - 1 := ⟨_, rfl⟩
        obtain ⟨c3, -⟩ := HC.out j (by omega)
        obtain ⟨z, hz⟩ : ∃ x, a j = x := ⟨_, rfl⟩
        rw [hz] at c3
        have e1 : (k : Int) - 1 = (j : Int) := by omega
        have e2 : IntKind.i64.wrap ((k : Int) - 1) = (j : Int) := by rw [IntKind.wrap_i64]; omega
        have j1 : (0 : Int) ≤ (j : Int) := by omega
        have j2 : (j : Int) < (n : Int) := by omega
        have j3 : (0 : Int) < (k : Int) := by omega
        by_cases r3 : x ≤ z
        · have d5 : decide (x ≤ z) = true := decide_eq_true r3
          have HF : Hid (bb = false) := Lib.hid (Bool.eq_false_iff.2 (fun hbb => by have := ((HB.out.1 hbb) k hlt).2 (by omega); rw [hx, ← hj, hz] at this; omega))
          have d4 : decide (0 < k) = true := decide_eq_true (by omega)
          clear hx hy hz r1 r2 r3 hj
          go_wp2_with fail
          go_quiet (fail)
          go_wp2_with fail
          go_ret
          exact ⟨by rw [HF.out]; rfl, _, by first | rfl | exact World.drewN_drewN _ _ _⟩
        · have d5 : decide (x ≤ z) = false := decide_eq_false r3
          have HN : Hid (PBr.OkTo a r (k + 1)) := Lib.hid (HK.out.next ⟨by rw [hy]; omega, fun _ => by rw [hx, ← hj, hz]; omega⟩)
          have d4 : decide (0 < k) = true := decide_eq_true (by omega)
          clear hx hy hz r1 r2 r3 hj
          go_wp2_with fail
          go_quiet (fail)
          go_wp2_with fail
          exact ⟨⟨k + 1, _, by omega, by congr 1, HN, rfl⟩, by simp [intOf]; omega⟩
    · obtain rfl : k = n := by omega
      have HF : Hid (bb = true) := Lib.hid (HB.out.2 HK.out)
      go_wp2_with fail
      go_ret
      exact ⟨by rw [HF.out]; rfl, _, by first | rfl | exact World.drewN_drewN _ _ _⟩

theorem drewN_zero (w : World) : w.drewN 0 = w := rfl
set_option maxHeartbeats 1600000 in
theorem reftable_any (A : Option Addr) (n cap : Nat) (a r : Nat → Int) (w : World) (hA : SlP w A n a r) (bb : Bool) (hb : bb = true ↔ PBr.Rt a r n) :
    Calls Try.prog 23 #[.slice A n cap] w fun e w' => e = .returned (.bool bb) ∧ ∃ q, w' = w.drewN q := by
  obtain ⟨hbd, hmax, hc⟩ := hA
  by_cases h0 : n = 0
  · subst h0
    have HF : Hid (bb = false) := Lib.hid (Bool.eq_false_iff.2 (fun h => by have := (hb.1 h).1.1; omega))
    clear hb hc hbd
    go_enter Try.func23, Try.ntmps23
    go_wp2_with fail
    go_ret
    exact ⟨by rw [HF.out]; rfl, 0, rfl⟩
  by_cases h12 : 12 < n
  · have HF : Hid (bb = false) := Lib.hid (Bool.eq_false_iff.2 (fun h => by have := (hb.1 h).1.2.1; omega))
    have n1b : ((n : Int) == 0) = false := by rw [beq_eq_false_iff_ne]; omega
    have n2 : (12 : Int) < (n : Int) := by omega
    clear hb hc hbd
    go_enter Try.func23, Try.ntmps23
    go_wp2_with fail
    go_ret
    exact ⟨by rw [HF.out]; rfl, 0, rfl⟩
  obtain ⟨b, off, rfl, hcc⟩ : ∃ b off, A = some ⟨b, off, none⟩ ∧ ∀ i, i < n → w.cell? ⟨b, off + i * 2, none⟩ = some (.int .i64 (a i)) ∧ w.cell? ⟨b, off + i * 2 + 1, none⟩ = some (.int .i64 (r i)) := hc.resolve_left h0
  by_cases ha : a 0 = 0
  · exact reftable_in b off n cap a r w hcc (by omega) (by omega) ha bb (hb.trans ⟨fun h => h.2, fun h => ⟨⟨by omega, by omega, ha⟩, h⟩⟩)
  · have HF : Hid (bb = false) := Lib.hid (Bool.eq_false_iff.2 (fun h => ha (hb.1 h).1.2.2))
    have n1b : ((n : Int) == 0) = false := by rw [beq_eq_false_iff_ne]; omega
    have n2 : ¬ (12 : Int) < (n : Int) := by omega
    have n3 : (0 : Int) < (n : Int) := by omega
    have c0 := (hcc 0 (by omega)).1
    simp only [Nat.zero_mul, Nat.add_zero] at c0
    obtain ⟨z, hz⟩ : ∃ z, a 0 = z := ⟨_, rfl⟩
    rw [hz] at c0 ha
    have z0 : (z != 0) = true := by rw [bne_iff_ne]; exact ha
    clear hb hc hbd hcc hz
    go_enter Try.func23, Try.ntmps23
    go_wp2_with fail
    go_ret
    exact ⟨by rw [HF.out]; rfl, 0, rfl⟩
end Go.Proofs.Ytpfpcnfodjmgcaa
