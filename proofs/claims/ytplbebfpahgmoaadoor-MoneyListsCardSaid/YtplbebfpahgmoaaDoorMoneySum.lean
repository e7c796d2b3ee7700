/-
  What money.Sum answers: the sum of a list, one by one, or that one, or what comes, is no amount.
-/
import Derived.Test.YtplbebfpahgmoaaDoorMoneyAdd
namespace Go.Proofs.YtplbebfpahgmoaaDoor
open Go.RowKit

instance (a b : Int) : Decidable (Adds a b) := by unfold Adds; infer_instance

/-- The sum, one by one. -/
def sumFrom (s : Int) : List Int → Option Int
  | [] => some s
  | k :: r => if Adds s k then sumFrom (s + k) r else none
def sumV (l : List Int) : Value := match sumFrom 0 l with
  | some n => .tuple #[.int .i64 n, .int .i64 0]
  | none => .tuple #[.int .i64 0, .int .i64 3]
theorem sumV_some {l : List Int} {n : Int} (h : sumFrom 0 l = some n) : sumV l = .tuple #[.int .i64 n, .int .i64 0] := by unfold sumV; rw [h]
theorem sumV_none {l : List Int} (h : sumFrom 0 l = none) : sumV l = .tuple #[.int .i64 0, .int .i64 3] := by unfold sumV; rw [h]
theorem sumFrom_append (s : Int) (a b : List Int) : sumFrom s (a ++ b) = (sumFrom s a).bind fun t => sumFrom t b := by
  induction a generalizing s with
  | nil => rfl
  | cons k r ih =>
    simp only [List.cons_append, sumFrom]
    by_cases h : Adds s k
    · rw [if_pos h, if_pos h, ih]
    · rw [if_neg h, if_neg h]; rfl
theorem take_snocI (l : List Int) (k : Nat) (h : k < l.length) : l.take (k + 1) = l.take k ++ [l.getD k 0] := by
  rw [List.take_succ_eq_append_getElem h]; simp [List.getD, h]
theorem sum_next {l : List Int} {j : Nat} {s : Int} (h : j < l.length) (hs : sumFrom 0 (l.take j) = some s) (ha : Adds s (l.getD j 0)) : sumFrom 0 (l.take (j + 1)) = some (s + l.getD j 0) := by
  rw [take_snocI l j h, sumFrom_append, hs, Option.bind_some]; simp only [sumFrom]; rw [if_pos ha]
theorem sum_fail {l : List Int} {j : Nat} {s : Int} (h : j < l.length) (hs : sumFrom 0 (l.take j) = some s) (ha : ¬ Adds s (l.getD j 0)) : sumFrom 0 l = none := by
  have e : l = l.take j ++ l.getD j 0 :: l.drop (j + 1) := by
    conv => lhs; rw [← List.take_append_drop (j + 1) l, take_snocI l j h]
    simp
  rw [e, sumFrom_append, hs, Option.bind_some]; simp only [sumFrom]; rw [if_neg ha]

/-- A slice that reads as a list of ints. -/
def Sl (w : World) (a : Option Addr) (len : Nat) (l : List Int) : Prop :=
  l.length = len ∧ (∀ i, i < len → -9223372036854775808 ≤ l.getD i 0 ∧ l.getD i 0 ≤ 9223372036854775807) ∧ len ≤ 9223372036854775807 ∧
  (len = 0 ∨ ∃ b off, a = some ⟨b, off, none⟩ ∧ ∀ i, i < len → w.cell? ⟨b, off + i, none⟩ = some (.int .i64 (l.getD i 0)))
theorem Sl.on {w w' : World} {a : Option Addr} {len : Nat} {l : List Int} (h : Sl w a len l) (hb : Below w.heap.size w w') : Sl w' a len l := by
  obtain ⟨h1, h2, h3, h4⟩ := h
  refine ⟨h1, h2, h3, ?_⟩
  rcases h4 with h4 | ⟨b, off, h4, h5⟩
  · exact .inl h4
  · exact .inr ⟨b, off, h4, fun i hi => (hb.cell (World.block_lt_of_cell? w _ (h5 i hi))).trans (h5 i hi)⟩

theorem retv {a b : Value} (h : a = b) : Ending.returned a = .returned b := by rw [h]

set_option maxHeartbeats 800000 in
theorem sum_any (a : Option Addr) (len cap : Nat) (l : List Int) (w : World) (h : Sl w a len l) :
    Calls Tryd.prog 14 #[.slice a len cap] w fun e w' => e = .returned (sumV l) ∧ w = w' := by
  obtain ⟨hlen, hbd, hmax, hc⟩ := h
  rcases hc with rfl | ⟨b, off, rfl, hcell⟩
  · obtain rfl : l = [] := List.eq_nil_of_length_eq_zero hlen
    have HR := Lib.hid (sumV_some (l := []) (n := 0) rfl)
    clear hbd hlen
    go_enter Tryd.func14, Tryd.ntmps14
    go_wp2
    go_loop [4, 11] (fun s i => s = .int .i64 0 ∧ i = .int .i64 0) (fun _ _ => 0)
    case atStart => exact ⟨rfl, rfl⟩
    case round =>
      obtain ⟨rfl, rfl⟩ := hrel
      go_wp2
      go_ret2
      exact ⟨retv (by rw [HR.out]; rfl), rfl⟩
  · have HL := Lib.hid hlen; clear hlen
    have HB := Lib.hid hbd; clear hbd
    have HC := Lib.hid hcell; clear hcell
    go_enter Tryd.func14, Tryd.ntmps14
    go_wp2
    go_loop [4, 11] (fun s i => ∃ (j : Nat) (n : Int), j ≤ len ∧ i = .int .i64 j ∧ s = .int .i64 n ∧ -9223372036854775807 ≤ n ∧ n ≤ 9223372036854775807 ∧ sumFrom 0 (l.take j) = some n) (fun _ i => len - (intOf i).toNat)
    case atStart => exact ⟨0, 0, Nat.zero_le _, rfl, rfl, by omega, by omega, rfl⟩
    case round =>
      obtain ⟨j, n, hj, rfl, rfl, hn, hn', hap⟩ := hrel
      have HA := Lib.hid hap; clear hap
      by_cases hlt : j < len
      · have hcj := HC.out j hlt
        obtain ⟨hb1, hb2⟩ := HB.out j hlt
        generalize hk : l.getD j 0 = k at *
        have HK := Lib.hid hk; clear hk
        by_cases had : Adds n k
        · have HD := Lib.hid had
          obtain ⟨hd1, hd2, hd3, hd4⟩ := had
          go_wp2_with (go_at_call 11; refine (add_yes _ _ _ hb2 HD.out).mono ?_; rintro e w' ⟨rfl, rfl⟩)
          go_round
          case rel => exact ⟨j + 1, n + k, by omega, by go_num, rfl, hd3, hd4, by rw [← HK.out]; exact sum_next (by rw [HL.out]; exact hlt) HA.out (by rw [HK.out]; exact HD.out)⟩
          case measure => simp [intOf]; omega
        · have HD := Lib.hid had; clear had
          have HR := Lib.hid (sumV_none (sum_fail (by rw [HL.out]; exact hlt) HA.out (by rw [HK.out]; exact HD.out)))
          go_wp2_with (go_at_call 11; refine (add_no _ _ _ (by omega) hn' hb1 hb2 HD.out).mono ?_; rintro e w' ⟨rfl, rfl⟩)
          go_ret2
          exact ⟨retv (by rw [HR.out]; rfl), rfl⟩
      · obtain rfl : j = len := by omega
        have HR : Hid (sumV l = .tuple #[.int .i64 n, .int .i64 0]) := sumV_some (by have := HA.out; rwa [List.take_of_length_le (by rw [HL.out]; exact Nat.le_refl _)] at this)
        go_wp2
        go_ret2
        exact ⟨retv (by rw [HR.out]; rfl), rfl⟩
end Go.Proofs.YtplbebfpahgmoaaDoor
