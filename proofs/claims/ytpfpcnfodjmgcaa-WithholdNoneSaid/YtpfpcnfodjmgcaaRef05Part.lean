/-
  What the reference of layer 5 answers: a row's part of an amount.
-/
import Derived.Test.YtpfpcnfodjmgcaaRef05
namespace Go.Proofs.Ytpfpcnfodjmgcaa
open Go.RowKit

theorem slp_cells {w : World} {A : Option Addr} {n : Nat} {a r : Nat → Int} (h : SlP w A n a r) {i : Nat} (hi : i < n) :
    ∃ b off, A = some ⟨b, off, none⟩ ∧ ∀ i, i < n → w.cell? ⟨b, off + i * 2, none⟩ = some (.int .i64 (a i)) ∧ w.cell? ⟨b, off + i * 2 + 1, none⟩ = some (.int .i64 (r i)) := by
  rcases h.2.2 with h0 | h0
  · omega
  · exact h0

set_option maxHeartbeats 3200000 in
set_option maxRecDepth 100000 in
theorem refpart_any (A : Option Addr) (n cap i : Nat) (a r : Nat → Int) (x : Int) (w : World) (hA : SlP w A n a r) (hR : PBr.Rt a r n) (hi : i < n) (hx : x ≤ 9223372036854775807) :
    Calls Try.prog 34 #[.slice A n cap, .int .i64 i, .int .i64 x] w fun e w' => e = .returned (.int .i64 (PBr.pt a n i x)) ∧ ∃ q, w' = w.drewN q := by
  obtain ⟨b, off, rfl, hc⟩ := slp_cells hA hi
  have h0 := hR.nonneg hi
  have hn := hA.2.1
  have hb1 := (hA.1 i hi).1
  have c1 := (hc i hi).1
  obtain ⟨y, hy⟩ : ∃ y, a i = y := ⟨_, rfl⟩
  rw [hy] at c1 h0 hb1
  have i1 : (0 : Int) ≤ (i : Int) := by omega
  have i2 : (i : Int) < (n : Int) := by omega
  have e1 : (i : Int) + 1 = ((i + 1 : Nat) : Int) := by omega
  obtain ⟨j, hj⟩ : ∃ j, j = i + 1 := ⟨_, rfl⟩
  have e2 : (i : Int) + 1 = (j : Int) := by omega
  have e3 : IntKind.i64.wrap ((i : Int) + 1) = (j : Int) := by rw [IntKind.wrap_i64]; omega
  clear e1
  by_cases h1 : x ≤ y
  · have HF : Hid (PBr.pt a n i x = 0) := Lib.hid (by unfold PBr.pt; rw [if_pos (by rw [hy]; exact h1)])
    clear hA hR hc hy hj e2 e3
    go_enter Try.func34, Try.ntmps34
    go_wp2_with fail
    go_ret
    exact ⟨by rw [HF.out]; rfl, 0, rfl⟩
  have d1 : decide (x ≤ y) = false := decide_eq_false h1
  by_cases h2 : j < n
  · have c2 := (hc j h2).1
    have hup := hR.up (show i < j by omega) h2
    have hb2 := (hA.1 j h2).1
    obtain ⟨z, hz⟩ : ∃ z, a j = z := ⟨_, rfl⟩
    rw [hz] at c2 hup hb2
    rw [hy] at hup
    have j1 : (0 : Int) ≤ (j : Int) := by omega
    have j2 : (j : Int) < (n : Int) := by omega
    by_cases h3 : z < x
    · have HF : Hid (PBr.pt a n i x = z - y) := Lib.hid (by unfold PBr.pt; rw [if_neg (by rw [hy]; exact h1), if_pos (by rw [← hj, hz]; exact ⟨h2, h3⟩), ← hj, hz, hy])
      have w1 : z - y ≤ 9223372036854775807 := by omega
      have w2 : 0 ≤ z - y := by omega
      clear hA hR hc hy hz hj
      go_enter Try.func34, Try.ntmps34
      go_wp2_with fail
      go_quiet (fail)
      go_wp2_with fail
      go_ret
      exact ⟨by rw [HF.out]; rfl, _, rfl⟩
    · have HF : Hid (PBr.pt a n i x = x - y) := Lib.hid (by unfold PBr.pt; rw [if_neg (by rw [hy]; exact h1), if_neg (by rw [← hj, hz]; exact fun h => h3 h.2), hy])
      have w1 : x - y ≤ 9223372036854775807 := by omega
      have w2 : 0 ≤ x - y := by omega
      have d3 : decide (z < x) = false := decide_eq_false h3
      clear hA hR hc hy hz hj
      go_enter Try.func34, Try.ntmps34
      go_wp2_with fail
      go_ret
      exact ⟨by rw [HF.out]; rfl, 0, rfl⟩
  · have HF : Hid (PBr.pt a n i x = x - y) := Lib.hid (by unfold PBr.pt; rw [if_neg (by rw [hy]; exact h1), if_neg (by rw [← hj]; exact fun h => h2 h.1), hy])
    have w1 : x - y ≤ 9223372036854775807 := by omega
    have w2 : 0 ≤ x - y := by omega
    have j2 : ¬ (j : Int) < (n : Int) := by omega
    clear hA hR hc hy hj
    go_enter Try.func34, Try.ntmps34
    go_wp2_with fail
    go_ret
    exact ⟨by rw [HF.out]; rfl, 0, rfl⟩
end Go.Proofs.Ytpfpcnfodjmgcaa
