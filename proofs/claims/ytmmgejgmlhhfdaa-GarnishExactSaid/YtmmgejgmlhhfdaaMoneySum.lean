/-
  What money.Sum answers: the sum of a list, one by one, or that one, or what comes, is no amount.
-/
import Derived.Test.YtmmgejgmlhhfdaaMoneyAdd
namespace Go.Proofs.Ytmmgejgmlhhfdaa
open Go.RowKit

theorem retv {a b : Value} (h : a = b) : Ending.returned a = .returned b := by rw [h]

set_option maxHeartbeats 800000 in
theorem sum_any (a : Option Addr) (len cap : Nat) (l : List Int) (w : World) (h : Sl w a len l) :
    Calls Try.prog 37 #[.slice a len cap] w fun e w' => e = .returned (sumV l) ∧ w = w' := by
  obtain ⟨hlen, hbd, hmax, hc⟩ := h
  rcases hc with rfl | ⟨b, off, rfl, hcell⟩
  · obtain rfl : l = [] := List.eq_nil_of_length_eq_zero hlen
    have HR := Lib.hid (sumV_some (l := []) (n := 0) rfl)
    clear hbd hlen
    go_enter Try.func37, Try.ntmps37
    go_wp2
    go_loop [4, 11] (fun s i => s = .int .i64 0 ∧ i = .int .i64 0) (fun _ _ => 0)
    case atStart => exact ⟨rfl, rfl⟩
    case round =>
      obtain ⟨rfl, rfl⟩ := hrel
      go_wp2
      go_ret2
      exact ⟨retv (by rw [HR.out]; rfl), rfl⟩
  · have HL := Lib.hid hlen; clear hlen
    have HB := Lib.hid hbd; clear hbd
    have HC := Lib.hid hcell; clear hcell
    go_enter Try.func37, Try.ntmps37
    go_wp2
    go_loop [4, 11] (fun s i => ∃ (j : Nat) (n : Int), j ≤ len ∧ i = .int .i64 j ∧ s = .int .i64 n ∧ -9223372036854775807 ≤ n ∧ n ≤ 9223372036854775807 ∧ sumFrom 0 (l.take j) = some n) (fun _ i => len - (intOf i).toNat)
    case atStart => exact ⟨0, 0, Nat.zero_le _, rfl, rfl, by omega, by omega, rfl⟩
    case round =>
      obtain ⟨j, n, hj, rfl, rfl, hn, hn', hap⟩ := hrel
      have HA := Lib.hid hap; clear hap
      by_cases hlt : j < len
      · have hcj := HC.out j hlt
        obtain ⟨hb1, hb2⟩ := HB.out j hlt
        generalize hk : l.getD j 0 = k at *
        have HK := Lib.hid hk; clear hk
        by_cases had : Adds n k
        · have HD := Lib.hid had
          obtain ⟨hd1, hd2, hd3, hd4⟩ := had
          go_wp2_with (go_at_call 61; refine (add_yes _ _ _ hb2 HD.out).mono ?_; rintro e w' ⟨rfl, rfl⟩)
          go_round
          case rel => exact ⟨j + 1, n + k, by omega, by go_num, rfl, hd3, hd4, by rw [← HK.out]; exact sum_next (by rw [HL.out]; exact hlt) HA.out (by rw [HK.out]; exact HD.out)⟩
          case measure => simp [intOf]; omega
        · have HD := Lib.hid had; clear had
          have HR := Lib.hid (sumV_none (sum_fail (by rw [HL.out]; exact hlt) HA.out (by rw [HK.out]; exact HD.out)))
          go_wp2_with (go_at_call 61; refine (add_no _ _ _ (by omega) hn' hb1 hb2 HD.out).mono ?_; rintro e w' ⟨rfl, rfl⟩)
          go_ret2
          exact ⟨retv (by rw [HR.out]; rfl), rfl⟩
      · obtain rfl : j = len := by omega
        have HR : Hid (sumV l = .tuple #[.int .i64 n, .int .i64 0]) := sumV_some (by have := HA.out; rwa [List.take_of_length_le (by rw [HL.out]; exact Nat.le_refl _)] at this)
        go_wp2
        go_ret2
        exact ⟨retv (by rw [HR.out]; rfl), rfl⟩
end Go.Proofs.Ytmmgejgmlhhfdaa
