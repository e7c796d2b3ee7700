/-
  What brackets.Right answers, over any table.
-/
import Derived.Test.YtpfpcnfodjmgcaaBrWords
import Derived.Test.YtpfpcnfodjmgcaaRateRight
import Derived.Deep.QuietTactic
import Derived.BigQuiet
namespace Go.Proofs.Ytpfpcnfodjmgcaa
open Go.RowKit

theorem rright_any (b : Int) (w : World) (y : Bool) (hy : y = true ↔ 0 ≤ b ∧ b ≤ 10000) : Calls Try.prog 25 #[.int .i64 b] w fun e w' => e = .returned (.bool y) ∧ w = w' := by
  cases y with
  | true => exact rate_yes b w (hy.1 rfl)
  | false => exact rate_no b w (fun h => by have := hy.2 h; cases this)

set_option maxHeartbeats 3200000 in
set_option maxRecDepth 100000 in
theorem bright_in (b off n cap : Nat) (a r : Nat → Int) (w : World) (hc : ∀ i, i < n → w.cell? ⟨b, off + i * 2, none⟩ = some (.int .i64 (a i)) ∧ w.cell? ⟨b, off + i * 2 + 1, none⟩ = some (.int .i64 (r i))) (h0 : 0 < n) (h12 : n ≤ 12) (ha : a 0 = 0) (bb : Bool) (hb : bb = true ↔ PBr.OkTo a r n) :
    Calls Try.prog 24 #[.slice (some ⟨b, off, none⟩) n cap] w fun e w' => e = .returned (.bool bb) ∧ Below w.heap.size w w' := by
  have HC := Lib.hid hc
  have HB := Lib.hid hb
  have c0 := (hc 0 h0).1
  rw [ha] at c0
  have n1 : ¬ (n : Int) < 1 := by omega
  have n2 : ¬ (12 : Int) < (n : Int) := by omega
  have n3 : (0 : Int) < (n : Int) := by omega
  simp only [Nat.zero_mul, Nat.add_zero] at c0
  clear hc hb
  go_enter Try.func24, Try.ntmps24
  go_wp2_with fail
  go_loopw [22] (fun i wr => ∃ (k : Nat), k ≤ n ∧ i = .int .i64 k ∧ Hid (PBr.OkTo a r k) ∧ Hid (Below w.heap.size w wr)) (fun i _ => n - (intOf i).toNat)
  case atStart => exact ⟨0, Nat.zero_le _, rfl, (show Hid _ from fun i hi => by omega), (show Hid _ from Below.refl _ _)⟩
  case round =>
    obtain ⟨k, hk, rfl, HK, HW⟩ := hrel
    by_cases hlt : k < n
    · have c1 := (HW.out.cell (World.block_lt_of_cell? w _ (HC.out k hlt).1)).trans (HC.out k hlt).1
      have c2 := (HW.out.cell (World.block_lt_of_cell? w _ (HC.out k hlt).2)).trans (HC.out k hlt).2
      obtain ⟨x, hx⟩ : ∃ x, a k = x := ⟨_, rfl⟩
      obtain ⟨y, hy⟩ : ∃ x, r k = x := ⟨_, rfl⟩
      rw [hx] at c1; rw [hy] at c2
      have i1 : (0 : Int) ≤ (k : Int) := by omega
      have i2 : (k : Int) < (n : Int) := by omega
      have hy0 : Hid (∀ w', Calls Try.prog 25 #[.int .i64 y] w' fun e w'' => e = .returned (.bool (decide (0 ≤ y ∧ y ≤ 10000))) ∧ w' = w'') := Lib.hid (fun w' => rright_any y w' _ (by simp))
      obtain ⟨Y, hY⟩ : ∃ Y, decide (0 ≤ y ∧ y ≤ 10000) = Y := ⟨_, rfl⟩
      rw [hY] at hy0
      by_cases k0 : k = 0
      · subst k0
        simp only [Nat.zero_mul, Nat.add_zero] at c1 c2
        cases Y with
        | false =>
          have HF : Hid (bb = false) := Lib.hid (Bool.eq_false_iff.2 (fun hbb => by have := ((HB.out.1 hbb) 0 hlt).1; rw [hy] at this; rw [decide_eq_false_iff_not] at hY; exact hY this))
          clear hx hy hY
          go_wp2_with fail
          go_big_quiet ((go_at_call 25; refine Calls.quiet_of_same (((hy0.out _).mono fun _ _ h => ⟨h.1, h.2.symm⟩))))
          go_wp2_with fail
          go_ret
          exact ⟨by rw [HF.out]; rfl, below_drewN (HW.out.alloc HW.out.size _) _⟩
        | true =>
          have HN : Hid (PBr.OkTo a r (0 + 1)) := Lib.hid (HK.out.next ⟨by rw [hy]; exact of_decide_eq_true hY, fun h => absurd h (Nat.lt_irrefl _)⟩)
          clear hx hy hY
          go_wp2_with fail
          go_big_quiet ((go_at_call 25; refine Calls.quiet_of_same (((hy0.out _).mono fun _ _ h => ⟨h.1, h.2.symm⟩))))
          go_wp2_with fail
          exact ⟨⟨1, by omega, rfl, HN, Lib.hid (below_drewN (HW.out.alloc HW.out.size _) _)⟩, by simp [intOf]; omega⟩
      · obtain ⟨j, hj⟩ : ∃ j, j = k - 1 := ⟨_, rfl⟩
        have c3 := (HW.out.cell (World.block_lt_of_cell? w _ (HC.out j (by omega)).1)).trans (HC.out j (by omega)).1
        obtain ⟨z, hz⟩ : ∃ x, a j = x := ⟨_, rfl⟩
        rw [hz] at c3
        have hsz := World.block_lt_of_cell? wr _ c3
        have e1 : (k : Int) - 1 = (j : Int) := by omega
        have e2 : IntKind.i64.wrap ((k : Int) - 1) = (j : Int) := by rw [IntKind.wrap_i64]; omega
        have j1 : (0 : Int) ≤ (j : Int) := by omega
        have j2 : (j : Int) < (n : Int) := by omega
        have j3 : (0 : Int) < (k : Int) := by omega
        have d4 : decide (0 < k) = true := decide_eq_true (by omega)
        by_cases r3 : x ≤ z
        · have d5 : decide (x ≤ z) = true := decide_eq_true r3
          have HF : Hid (bb = false) := Lib.hid (Bool.eq_false_iff.2 (fun hbb => by have := ((HB.out.1 hbb) k hlt).2 (by omega); rw [hx, ← hj, hz] at this; omega))
          clear hx hy hz hj r3 hY
          go_wp2_with fail
          go_big_quiet (fail)
          go_wp2_with fail
          go_ret
          exact ⟨by rw [HF.out]; rfl, below_drewN (HW.out.alloc HW.out.size _) _⟩
        · have d5 : decide (x ≤ z) = false := decide_eq_false r3
          cases Y with
          | false =>
            have HF : Hid (bb = false) := Lib.hid (Bool.eq_false_iff.2 (fun hbb => by have := ((HB.out.1 hbb) k hlt).1; rw [hy] at this; rw [decide_eq_false_iff_not] at hY; exact hY this))
            clear hx hy hz hj r3 hY
            go_wp2_with fail
            go_big_quiet ((go_at_call 25; refine Calls.quiet_of_same (((hy0.out _).mono fun _ _ h => ⟨h.1, h.2.symm⟩))))
            go_wp2_with fail
            go_ret
            exact ⟨by rw [HF.out]; rfl, below_drewN (HW.out.alloc HW.out.size _) _⟩
          | true =>
            have HN : Hid (PBr.OkTo a r (k + 1)) := Lib.hid (HK.out.next ⟨by rw [hy]; exact of_decide_eq_true hY, fun _ => by rw [hx, ← hj, hz]; omega⟩)
            clear hx hy hz hj r3 hY
            go_wp2_with fail
            go_big_quiet ((go_at_call 25; refine Calls.quiet_of_same (((hy0.out _).mono fun _ _ h => ⟨h.1, h.2.symm⟩))))
            go_wp2_with fail
            exact ⟨⟨k + 1, by omega, by congr 1, HN, Lib.hid (below_drewN (HW.out.alloc HW.out.size _) _)⟩, by simp [intOf]; omega⟩
    · obtain rfl : k = n := by omega
      have HF : Hid (bb = true) := Lib.hid (HB.out.2 HK.out)
      go_wp2_with fail
      go_ret
      exact ⟨by rw [HF.out]; rfl, HW.out⟩

set_option maxHeartbeats 1600000 in
theorem bright_any {A : Option Addr} {n cap : Nat} {a r : Nat → Int} {w : World} {bb : Bool} (hA : SlP w A n a r) (hb : bb = true ↔ PBr.Rt a r n) : Calls Try.prog 24 #[.slice A n cap] w fun e w' => e = .returned (.bool bb) ∧ Below w.heap.size w w' := by
  obtain ⟨hbd, hmax, hc⟩ := hA
  by_cases h0 : n = 0
  · subst h0
    have HF : Hid (bb = false) := Lib.hid (Bool.eq_false_iff.2 (fun h => by have := (hb.1 h).1.1; omega))
    clear hb hc hbd
    go_enter Try.func24, Try.ntmps24
    go_wp2_with fail
    go_ret
    exact ⟨by rw [HF.out]; rfl, Below.refl _ _⟩
  by_cases h12 : 12 < n
  · have HF : Hid (bb = false) := Lib.hid (Bool.eq_false_iff.2 (fun h => by have := (hb.1 h).1.2.1; omega))
    have n1 : ¬ (n : Int) < 1 := by omega
    have n2 : (12 : Int) < (n : Int) := by omega
    clear hb hc hbd
    go_enter Try.func24, Try.ntmps24
    go_wp2_with fail
    go_ret
    exact ⟨by rw [HF.out]; rfl, Below.refl _ _⟩
  obtain ⟨b, off, rfl, hcc⟩ : ∃ b off, A = some ⟨b, off, none⟩ ∧ ∀ i, i < n → w.cell? ⟨b, off + i * 2, none⟩ = some (.int .i64 (a i)) ∧ w.cell? ⟨b, off + i * 2 + 1, none⟩ = some (.int .i64 (r i)) := hc.resolve_left h0
  by_cases ha : a 0 = 0
  · exact bright_in b off n cap a r w hcc (by omega) (by omega) ha bb (hb.trans ⟨fun h => h.2, fun h => ⟨⟨by omega, by omega, ha⟩, h⟩⟩)
  · have HF : Hid (bb = false) := Lib.hid (Bool.eq_false_iff.2 (fun h => ha (hb.1 h).1.2.2))
    have n1 : ¬ (n : Int) < 1 := by omega
    have n2 : ¬ (12 : Int) < (n : Int) := by omega
    have n3 : (0 : Int) < (n : Int) := by omega
    have c0 := (hcc 0 (by omega)).1
    simp only [Nat.zero_mul, Nat.add_zero] at c0
    obtain ⟨z, hz⟩ : ∃ z, a 0 = z := ⟨_, rfl⟩
    rw [hz] at c0 ha
    have z0 : (z != 0) = true := by rw [bne_iff_ne]; exact ha
    clear hb hc hbd hcc hz
    go_enter Try.func24, Try.ntmps24
    go_wp2_with fail
    go_ret
    exact ⟨by rw [HF.out]; rfl, Below.refl _ _⟩
end Go.Proofs.Ytpfpcnfodjmgcaa
