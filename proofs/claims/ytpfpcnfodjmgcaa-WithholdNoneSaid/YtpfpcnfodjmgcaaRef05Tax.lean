/-
  What the reference of layer 5 answers: the tax.
-/
import Derived.Test.YtpfpcnfodjmgcaaRef05Part
import Derived.Test.YtpfpcnfodjmgcaaRef02Down
import Derived.Deep.RegionHeld3
namespace Go.Proofs.Ytpfpcnfodjmgcaa
open Go.RowKit

theorem tax_bound {a r : Nat → Int} {n : Nat} {x : Int} (h : PBr.Rt a r n) (hx : x ≤ 9223372036854775807) {k : Nat} (hk : k ≤ n) : PSplit.sumN (PBr.tN a r n x) k ≤ 9223372036854775807 := by
  by_cases h0 : 0 ≤ x
  · have := PBr.tax_to h h0 hk; omega
  · have : PSplit.sumN (PBr.tN a r n x) k = 0 := PBr.sumN_zero (fun i hi => by unfold PBr.tN PBr.pN; rw [PBr.pt_low h (by omega) (by omega)]; simp)
    omega

set_option maxHeartbeats 3200000 in
set_option maxRecDepth 100000 in
theorem reftax_any (A : Option Addr) (n cap : Nat) (a r : Nat → Int) (x : Int) (w : World) (hA : SlP w A n a r) (hR : PBr.Rt a r n) (hx : x ≤ 9223372036854775807) :
    Calls Try.prog 26 #[.slice A n cap, .int .i64 x] w fun e w' => e = .returned (.int .i64 (PBr.tax a r n x : Nat)) ∧ Below w.heap.size w w' := by
  obtain ⟨b, off, rfl, hc⟩ := slp_cells hA hR.1.1
  have HC := Lib.hid hc; have HA := Lib.hid hA; have HR := Lib.hid hR
  have hn := hR.1.2.1
  clear hc hA hR
  go_enter Try.func26, Try.ntmps26
  go_wp2_with fail
  go_loopw [5, 6] (fun s i wr => ∃ (k : Nat), k ≤ n ∧ i = .int .i64 k ∧ s = .int .i64 (PSplit.sumN (PBr.tN a r n x) k : Nat) ∧ Hid (Below w.heap.size w wr)) (fun _ i _ => n - (intOf i).toNat)
  case atStart => exact ⟨0, Nat.zero_le _, rfl, rfl, (show Hid _ from Below.refl _ _)⟩
  case round =>
    obtain ⟨k, hk, rfl, rfl, HB⟩ := hrel
    by_cases hlt : k < n
    · have c2 := (HB.out.cell (World.block_lt_of_cell? w _ (HC.out k hlt).2)).trans (HC.out k hlt).2
      have hr := (HR.out.2 k hlt).1
      have hp := PBr.pt_nonneg (i := k) (x := x) HR.out
      have hpx : PBr.pt a n k x ≤ 9223372036854775807 := by
        by_cases h0 : 0 ≤ x
        · have := PBr.pt_le HR.out hlt h0; omega
        · rw [PBr.pt_low HR.out hlt (by omega)]; omega
      obtain ⟨R, hRr⟩ : ∃ R : Nat, r k = (R : Int) := ⟨(r k).toNat, by omega⟩
      obtain ⟨P, hP⟩ : ∃ P : Nat, PBr.pt a n k x = (P : Int) := ⟨(PBr.pt a n k x).toNat, by omega⟩
      have hb := tax_bound HR.out hx (show k + 1 ≤ n by omega)
      have HS : Hid (PSplit.sumN (PBr.tN a r n x) (k + 1) = PSplit.sumN (PBr.tN a r n x) k + P * R / 10000) := Lib.hid (by
        simp only [PSplit.sumN]
        unfold PBr.tN PBr.pN
        rw [hP, hRr, Int.toNat_natCast, Int.toNat_natCast])
      rw [HS.out] at hb
      have HP : Hid (∀ w', Below w.heap.size w w' → Calls Try.prog 34 #[.slice (some ⟨b, off, none⟩) n cap, .int .i64 k, .int .i64 x] w' fun e w'' => e = .returned (.int .i64 (P : Int)) ∧ ∃ q, w'' = w'.drewN q) := Lib.hid (fun w' hb' => by
        have := refpart_any (some ⟨b, off, none⟩) n cap k a r x w' (HA.out.on hb') HR.out hlt hx
        rw [hP] at this; exact this)
      have HD : Hid (∀ w', Calls Try.prog 33 #[.int .i64 P, .int .i64 R, .int .i64 10000, .int .i64 0] w' fun e w'' => e = .returned (.tuple #[.int .i64 ((P * R / 10000 : Nat) : Int), .bool true]) ∧ Below w'.heap.size w' w'') := Lib.hid (fun w' => refdiv_down P R 10000 w' (by omega) (by omega) (by omega) (by omega) (by omega))
      have ON : Hid (∀ w', Below w.heap.size w w' → w'.cell? ⟨b, off + k * 2 + 1, none⟩ = some (.int .i64 (R : Int))) := Lib.hid (fun w' hb' => by
        rw [← hRr]; exact (hb'.cell (World.block_lt_of_cell? w _ (HC.out k hlt).2)).trans (HC.out k hlt).2)
      rw [hRr] at c2
      obtain ⟨Q, hQ⟩ : ∃ Q, P * R / 10000 = Q := ⟨_, rfl⟩
      rw [hQ] at HS hb HD
      obtain ⟨S, hS⟩ : ∃ S, PSplit.sumN (PBr.tN a r n x) k = S := ⟨_, rfl⟩
      rw [hS] at HS hb ⊢
      have i1 : (0 : Int) ≤ (k : Int) := by omega
      have i2 : (k : Int) < (n : Int) := by omega
      have s1 : (S : Int) + (Q : Int) ≤ 9223372036854775807 := by omega
      clear hr hp hpx hRr hP hQ hS
      go_wp2_with fail
      go_region_held3 (fun w' => w'.cell? ⟨b, off + k * 2 + 1, none⟩ = some (.int .i64 (R : Int)))
        (first
          | exact ON.out _ (by repeat' (first | exact HB.out | apply Below.drew | apply below_drewN | refine below_step ?_ hb7))
          | go_keep)
        (first
          | (go_at_call 34; refine (HP.out _ (by repeat' (first | exact HB.out | apply Below.drew | apply below_drewN))).mono ?_; rintro _ _ ⟨rfl, q, rfl⟩)
          | (go_at_call 33; refine (HD.out _).mono ?_; rintro _ w7 ⟨rfl, hb7⟩))
      all_goals
        have HB7 : Hid (Below w.heap.size w w7) := Lib.hid (by repeat' (first | exact HB.out | apply Below.drew | apply below_drewN | refine below_step ?_ hb7))
        clear hb7
        go_wp2_with fail
        exact ⟨⟨k + 1, by omega, by congr 1, by rw [HS.out]; congr 1, HB7⟩, by simp [intOf]; omega⟩
    · obtain rfl : k = n := by omega
      go_wp2_with fail
      go_ret
      exact ⟨rfl, HB.out⟩
end Go.Proofs.Ytpfpcnfodjmgcaa
