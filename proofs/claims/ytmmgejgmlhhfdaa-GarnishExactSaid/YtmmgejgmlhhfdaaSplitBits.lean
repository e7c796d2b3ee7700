/-
  The small calls of package split: whether a number is below 0, whether one of a list is, and the remainder by products that may wrap round.
-/
import Derived.Test.YtmmgejgmlhhfdaaBase
namespace Go.Proofs.Ytmmgejgmlhhfdaa
open Go.RowKit

theorem iszero_any (x : Int) (w : World) : Calls Try.prog 36 #[.int .i64 x] w fun e w' => e = .returned (.bool (decide (x < 0))) ∧ w = w' := by
  go_enter Try.func36, Try.ntmps36
  go_wp2_with fail
  go_ret
  exact ⟨rfl, rfl⟩

set_option maxHeartbeats 1600000 in
theorem index_any (A : Option Addr) (n cap : Nat) (ws : List Int) (w : World) (h : Sl w A n ws) :
    Calls Try.prog 60 #[.slice A n cap, .func (.func 36) #[] #[]] w fun e w' => (∃ z : Int, e = .returned (.int .i64 z) ∧ (0 ≤ z ↔ ∃ i, i < n ∧ ws.getD i 0 < 0)) ∧ w = w' := by
  obtain ⟨hlen, hbd, hmax, hc⟩ := h
  have HC := Lib.hid hc
  clear hbd hc
  go_enter Try.func60, Try.ntmps60
  go_wp2_with fail
  go_loop [8] (fun i => ∃ (k : Nat), k ≤ n ∧ i = .int .i64 k ∧ Hid (∀ t, t < k → ¬ ws.getD t 0 < 0)) (fun i => n - (intOf i).toNat)
  case atStart => exact ⟨0, Nat.zero_le _, rfl, (show Hid _ from fun t ht => by omega)⟩
  case round =>
    obtain ⟨k, hk, rfl, HK⟩ := hrel
    by_cases hlt : k < n
    · obtain ⟨b, off, rfl, hcell⟩ : ∃ b off, A = some ⟨b, off, none⟩ ∧ ∀ i, i < n → w.cell? ⟨b, off + i, none⟩ = some (.int .i64 (ws.getD i 0)) := by
        rcases HC.out with h | h
        · omega
        · exact h
      have c1 := hcell k hlt
      clear hcell
      have i1 : (0 : Int) ≤ (k : Int) := by omega
      have i2 : (k : Int) < (n : Int) := by omega
      obtain ⟨x, hx⟩ : ∃ x, ws.getD k 0 = x := ⟨_, rfl⟩
      rw [hx] at c1
      have HX := Lib.hid hx; clear hx
      by_cases hneg : x < 0
      · go_wp2_with fail
        refine (iszero_any x _).mono ?_
        rintro _ _ ⟨rfl, rfl⟩
        rw [decide_eq_true hneg]
        go_wp2_with fail
        go_ret
        exact ⟨⟨(k : Int), rfl, ⟨fun _ => ⟨k, hlt, by rw [HX.out]; exact hneg⟩, fun _ => by omega⟩⟩, rfl⟩
      · go_wp2_with fail
        refine (iszero_any x _).mono ?_
        rintro _ _ ⟨rfl, rfl⟩
        rw [decide_eq_false (Int.not_lt.2 hneg)]
        go_wp2_with fail
        go_round
        case rel => exact ⟨k + 1, by omega, by congr 1, fun t ht => by
          by_cases e : t = k
          · subst e; rw [HX.out]; exact Int.not_lt.2 hneg
          · exact Int.not_lt.2 (HK.out t (by omega))⟩
        case measure => simp [intOf]; omega
    · obtain rfl : k = n := by omega
      go_wp2_with fail
      go_ret
      exact ⟨⟨-1, rfl, ⟨fun h => by omega, fun ⟨i, hi, hn⟩ => absurd hn (Int.not_lt.2 (HK.out i hi))⟩⟩, rfl⟩

theorem contains_any (A : Option Addr) (n cap : Nat) (ws : List Int) (w : World) (h : Sl w A n ws) (b : Bool) (hb : b = true ↔ ∃ i, i < n ∧ ws.getD i 0 < 0) :
    Calls Try.prog 35 #[.slice A n cap, .func (.func 36) #[] #[]] w fun e w' => e = .returned (.bool b) ∧ w = w' := by
  have H := Lib.hid h; clear h
  have HB := Lib.hid hb; clear hb
  go_enter Try.func35, Try.ntmps35
  go_wp2_with fail
  refine (index_any A n cap ws _ H.out).mono ?_
  rintro _ _ ⟨⟨z, rfl, hz⟩, rfl⟩
  have HZ : Hid (decide (0 ≤ z) = b) := Lib.hid (by
    have := HB.out
    cases b
    · exact decide_eq_false (fun h => by have := this.2 (hz.1 h); cases this)
    · exact decide_eq_true (hz.2 (this.1 rfl)))
  clear hz
  go_wp2_with fail
  go_ret
  exact ⟨by rw [← HZ.out]; rfl, rfl⟩

theorem wrap_sub (a b : Int) (h0 : 0 ≤ a - b) (h1 : a - b ≤ 9223372036854775807) : wrap64 (wrap64 a - wrap64 b) = a - b := by
  unfold wrap64; omega

theorem remainder_any (T W S : Nat) (w : World) (hS : 0 < S) (hS1 : S ≤ 9223372036854775807) :
    Calls Try.prog 39 #[.int .i64 T, .int .i64 W, .int .i64 S, .int .i64 (T * W / S : Nat)] w fun e w' => e = .returned (.int .i64 ((T * W % S : Nat) : Int)) ∧ w = w' := by
  obtain ⟨Q, hQ⟩ : ∃ Q, T * W / S = Q := ⟨_, rfl⟩
  have h1 := Nat.div_add_mod (T * W) S
  have h2 := Nat.mod_lt (T * W) hS
  have HF : Hid ((T : Int) * (W : Int) - (Q : Int) * (S : Int) = ((T * W % S : Nat) : Int)) := Lib.hid (by
    rw [hQ] at h1
    have h3 : (((S * Q + T * W % S : Nat)) : Int) = ((T * W : Nat) : Int) := by rw [h1]
    rw [Int.natCast_add, Int.natCast_mul, Int.natCast_mul] at h3
    rw [Int.mul_comm (Q : Int)]
    omega)
  have HW : Hid (wrap64 (wrap64 ((T : Int) * (W : Int)) - wrap64 ((Q : Int) * (S : Int))) = ((T * W % S : Nat) : Int)) := Lib.hid (by
    rw [wrap_sub _ _ (by rw [HF.out]; omega) (by rw [HF.out]; omega), HF.out])
  rw [hQ]
  clear h1 h2 hQ
  go_enter Try.func39, Try.ntmps39
  go_wp2_with fail
  go_ret
  exact ⟨by
    show Ending.returned (.int .i64 _) = _
    rw [HW.out], rfl⟩
end Go.Proofs.Ytmmgejgmlhhfdaa
