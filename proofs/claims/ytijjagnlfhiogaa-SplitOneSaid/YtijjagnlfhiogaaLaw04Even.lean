/-
  SplitEven: parts that are alike are at most 1 apart, the greater ones first.
-/
import Derived.Test.YtijjagnlfhiogaaLaw04Awake
namespace PSplit
theorem sumFrom_rep (v : Int) (hv : 0 ≤ v) : ∀ (n : Nat) (s : Int), 0 ≤ s → s + n * v ≤ 9223372036854775807 → Go.Proofs.Ytijjagnlfhiogaa.sumFrom s (List.replicate n v) = some (s + n * v)
  | 0, s, _, _ => by simp [Go.Proofs.Ytijjagnlfhiogaa.sumFrom]
  | n + 1, s, h0, h1 => by
    rw [List.replicate_succ]
    have e : s + ((n + 1 : Nat) : Int) * v = (s + v) + (n : Int) * v := by rw [Int.natCast_add, Int.add_mul]; simp; omega
    rw [e] at h1 ⊢
    have hp : 0 ≤ (n : Int) * v := Int.mul_nonneg (by omega) hv
    simp only [Go.Proofs.Ytijjagnlfhiogaa.sumFrom]
    rw [if_pos (by unfold Go.Proofs.Ytijjagnlfhiogaa.Adds; omega)]
    exact sumFrom_rep v hv n (s + v) (by omega) h1
theorem rep_get {n i : Nat} {v : Int} (h : i < n) : (List.replicate n v).getD i 0 = v := by simp [List.getD, h]
/-- The parts that are alike. -/
def evenL (T n : Nat) : List Int := (List.range n).map (fun i => (((T + (n - 1 - i)) / n : Nat) : Int))
theorem evenL_get {T n i : Nat} (h : i < n) : (evenL T n).getD i 0 = (((T + (n - 1 - i)) / n : Nat) : Int) := by simp [evenL, List.getD, h]
theorem evenL_len (T n : Nat) : (evenL T n).length = n := by simp [evenL]
theorem alike {T n v : Nat} (hn : 1 ≤ n) (hn' : n ≤ 60) (hv : 1 ≤ v) (hs : n * v ≤ 9223372036854775807) : errOf (T : Int) (List.replicate n (v : Int)) = 0 ∧ listOf (T : Int) (List.replicate n (v : Int)) = evenL T n := by
  have hl : (List.replicate n (v : Int)).length = n := List.length_replicate
  have hs' : (n : Int) * (v : Int) ≤ 9223372036854775807 := by rw [← Int.natCast_mul]; omega
  have hsum := sumFrom_rep (v : Int) (by omega) n 0 (by omega) (by omega)
  rw [Int.zero_add] at hsum
  have hpos : 0 < n * v := Nat.mul_pos (by omega) (by omega)
  have he : errOf (T : Int) (List.replicate n (v : Int)) = 0 := by
    unfold errOf
    rw [hl, if_neg (by omega), if_neg (by
      rintro (h | ⟨i, hi, h⟩)
      · omega
      · rw [rep_get hi] at h; omega), hsum]
    simp only
    rw [if_neg (by rw [← Int.natCast_mul]; omega)]
  refine ⟨he, ?_⟩
  have hw : ∀ j, j < n → wOf (List.replicate n (v : Int)) j = v := fun j hj => by unfold wOf; rw [rep_get hj]; omega
  have hS : sumN (wOf (List.replicate n (v : Int))) n = n * v := by rw [sumN_congr hw, sumN_const]
  unfold listOf
  rw [if_pos he]
  unfold partsOf pL evenL
  rw [hl, hS]
  apply List.map_congr_left
  intro i hi
  rw [List.mem_range] at hi
  rw [part_alike hw hv hi]
  simp
theorem even_down {T n i : Nat} (h0 : 0 < i) (hi : i < n) : (T + (n - 1 - i)) / n ≤ (T + (n - 1 - (i - 1))) / n ∧ (T + (n - 1 - 0)) / n ≤ (T + (n - 1 - i)) / n + 1 := by
  refine ⟨Nat.div_le_div_right (by omega), ?_⟩
  have := Nat.add_div_right (T + (n - 1 - i)) (show 0 < n by omega)
  rw [← this]
  exact Nat.div_le_div_right (by omega)
end PSplit
namespace Go.Proofs.Ytijjagnlfhiogaa
open Go.RowKit

set_option maxHeartbeats 3200000 in
set_option maxRecDepth 100000 in
theorem even_walk (a m v : Int) (w : World) (ha : (Lit.int .u64 a).wf = true) (hm : (Lit.int .u8 m).wf = true) (hv : (Lit.int .u32 v).wf = true) :
    Calls Try.prog 5 #[.int .u64 a, .int .u8 m, .int .u32 v] w fun e w' => e = .returned (.bool true) ∧ Below w.heap.size w w' := by
  obtain ⟨a0, a1⟩ := u64_bounds ha
  obtain ⟨m0, m1⟩ := u8_bounds hm
  obtain ⟨v0, v1⟩ := u32_bounds hv
  obtain ⟨T, hT⟩ : ∃ T : Nat, a / 2 = (T : Int) := ⟨(a / 2).toNat, by omega⟩
  obtain ⟨n, hn⟩ : ∃ n : Nat, 1 + m % 60 = (n : Int) := ⟨(1 + m % 60).toNat, by omega⟩
  obtain ⟨V, hV⟩ : ∃ n : Nat, 1 + v = (n : Int) := ⟨(1 + v).toNat, by omega⟩
  have hT1 : T ≤ 9223372036854775807 := by omega
  have hn1 : 1 ≤ n := by omega
  have hn2 : n ≤ 60 := by omega
  have hV1 : 1 ≤ V := by omega
  have hV2 : V ≤ 4294967296 := by omega
  have hnV : n * V ≤ 9223372036854775807 := Nat.le_trans (Nat.mul_le_mul hn2 hV2) (by omega)
  have E1 : Hid (∀ w, Calls Try.prog 10 #[.int .i64 T, .int .i64 n] w (SplR (PSplit.evenL T n) 0 w)) := Lib.hid (fun w => by
    have h := even_mid T n w (by omega) hn1 hn2
    have k := PSplit.alike (T := T) (v := 1) hn1 hn2 (Nat.le_refl _) (by omega)
    rw [show ((1 : Nat) : Int) = 1 from rfl] at k
    rw [k.1, k.2] at h
    exact h)
  have E2 : Hid (∀ A c w, Sl w A n (List.replicate n (V : Int)) → Calls Try.prog 9 #[.int .i64 T, .slice A n c] w (SplR (PSplit.evenL T n) 0 w)) := Lib.hid (fun A c w hA => by
    have h := split_any T A n c _ w hA (by omega)
    have k := PSplit.alike (T := T) (v := V) hn1 hn2 hV1 hnV
    rw [k.1, k.2] at h
    exact h)
  clear ha hm hv
  go_enter Try.func5, Try.ntmps5
  go_wp2_with fail
  refine (E1.out _).mono ?_
  rintro _ w1 ⟨B, q, c, rfl, hc1, hc2, S1, b1⟩
  have HS1 := Lib.hid S1
  obtain rfl : n = q := by have := S1.1; rw [PSplit.evenL_len] at this; exact this
  have HB1 := Lib.hid b1
  clear S1 b1
  go_wp2_with fail
  have hsz := HB1.out.size
  go_loopw [11, 29] (fun p i wr => ∃ (k : Nat), k ≤ n ∧ i = .int .i64 k ∧ Hid (wr.ownsRow w1.heap.size 3 1 p k (cellsOfInts (List.replicate k (V : Int)))) ∧ Hid (Below w1.heap.size w1 wr)) (fun _ i _ => n - (intOf i).toNat)
  case atStart => exact ⟨0, Nat.zero_le _, rfl, (show Hid _ from World.ownsRow_nil _ _ _ _), (show Hid _ from Below.refl _ _)⟩
  case round =>
    obtain ⟨k, hk, rfl, HO, HB⟩ := hrel
    have hbs := HB.out.size
    by_cases hlt : k < n
    · have i1 : (0 : Int) ≤ (k : Int) := by omega
      have i2 : (k : Int) < (n : Int) := by omega
      go_wp2_with (at_builtin; refine append_one rfl _ _ rfl w1.heap.size _ k _ ((V : Nat) : Int) (by rfl) HO.out (by rfl) (by omega) hbs ?_)
      intro v' w3 hown' hb3
      rw [← List.replicate_succ'] at hown'
      have HO3 := Lib.hid hown'
      have HB3 := Lib.hid (HB.out.trans hb3)
      clear hown' hb3
      go_wp2_with fail
      go_roundw
      case rel => exact ⟨k + 1, by omega, by congr 1, HO3, HB3⟩
      case measure => simp [intOf]; omega
    · obtain rfl : k = n := by omega
      obtain ⟨P, pc, rfl, p1, p2, p3, p4⟩ := sl_of_own HO.out (fun i hi => by rw [PSplit.rep_get (by simpa using hi)]; omega) (by omega)
      have HP := Lib.hid p4
      obtain ⟨w5, h5⟩ : ∃ w5, w5 = wr := ⟨_, rfl⟩
      subst h5
      have HS5 := Lib.hid (HS1.out.on HB.out)
      have HB5 := Lib.hid (below_step HB1.out HB.out)
      clear p1 p2 p3 p4 HO HS1 HB1 HB hbs hsz
      go_wp2_with fail
      refine (E2.out _ _ _ HP.out).mono ?_
      rintro _ w6 ⟨C, q, d, rfl, hd1, hd2, S6, b6⟩
      have HS6 := Lib.hid (HS5.out.on b6)
      have HC6 := Lib.hid S6
      have HB6 := Lib.hid (below_step HB5.out b6)
      clear S6 b6 HS5 HB5
      have n0 : ((k : Int) != (k : Int)) = false := by rw [bne_self_eq_false]
      go_wp2_with fail
      refine (same_any B C k q c d _ _ _ HS6.out HC6.out).mono ?_
      rintro _ w7 ⟨rfl, b7⟩
      rw [decide_eq_true (rfl : PSplit.evenL T k = PSplit.evenL T k)]
      have HS7 := Lib.hid (HS6.out.on b7)
      have HB7 := Lib.hid (below_step HB6.out b7)
      clear b7 HS6 HC6 HB6 E1 E2
      go_wp2_with fail
      go_loopw [14] (fun i wz => ∃ (t q0 : Nat), 1 ≤ t ∧ t ≤ k ∧ i = .int .i64 t ∧ wz = w7.drewN q0) (fun i _ => k - (intOf i).toNat)
      case atStart => exact ⟨1, 0, Nat.le_refl _, hn1, rfl, rfl⟩
      case round =>
        obtain ⟨t, q0, ht1, htk, rfl, rfl⟩ := hrel
        by_cases hlt2 : t < k
        · obtain ⟨b1, o1, rfl, hc⟩ : ∃ b off, B = some ⟨b, off, none⟩ ∧ ∀ i, i < k → w7.cell? ⟨b, off + i, none⟩ = some (.int .i64 ((PSplit.evenL T k).getD i 0)) := by
            rcases HS7.out.2.2.2 with h | h
            · omega
            · exact h
          obtain ⟨j, hj⟩ : ∃ j, j = t - 1 := ⟨_, rfl⟩
          have g1 := hc t hlt2
          have g2 := hc j (by omega)
          have g3 := hc 0 (by omega)
          rw [PSplit.evenL_get hlt2] at g1
          rw [PSplit.evenL_get (by omega)] at g2
          rw [PSplit.evenL_get (by omega)] at g3
          have hd := PSplit.even_down (T := T) (show 0 < t by omega) hlt2
          rw [← hj] at hd
          have e1 : (t : Int) - 1 = (j : Int) := by omega
          have e2 : IntKind.i64.wrap ((t : Int) - 1) = (j : Int) := by rw [IntKind.wrap_i64]; omega
          have hz : (T + (k - 1 - 0)) / k ≤ 9223372036854775807 := Nat.div_le_of_le_mul (by omega)
          obtain ⟨x, hx⟩ : ∃ x, (T + (k - 1 - t)) / k = x := ⟨_, rfl⟩
          obtain ⟨y, hy⟩ : ∃ x, (T + (k - 1 - j)) / k = x := ⟨_, rfl⟩
          obtain ⟨z, hz'⟩ : ∃ x, (T + (k - 1 - 0)) / k = x := ⟨_, rfl⟩
          rw [hx] at g1 hd; rw [hy] at g2 hd; rw [hz'] at g3 hd hz
          rw [Nat.add_zero] at g3
          clear hx hy hz' hc
          have j1 : (0 : Int) ≤ (t : Int) := by omega
          have j2 : (t : Int) < (k : Int) := by omega
          have j3 : (0 : Int) ≤ (j : Int) := by omega
          have j4 : (j : Int) < (k : Int) := by omega
          have j5 : (0 : Int) < (k : Int) := by omega
          have d1 : decide (y < x) = false := decide_eq_false (by omega)
          have d2 : decide ((x : Int) < (z : Int) - 1) = false := decide_eq_false (by omega)
          have d3 : IntKind.i64.wrap ((z : Int) - 1) = (z : Int) - 1 := by rw [IntKind.wrap_i64]; omega
          clear hd hz hj hlt
          go_wp2_with fail
          go_quiet (fail)
          go_wp2_with fail
          go_roundw
          case rel => exact ⟨t + 1, _, by omega, by omega, by congr 1, rfl⟩
          case measure => simp [intOf]; omega
        · obtain rfl : t = k := by omega
          go_wp2_with fail
          refine (awake_any _).mono ?_
          rintro _ w8 ⟨rfl, b8⟩
          have HB8 := Lib.hid (below_step (below_drewQ HB7.out q0) b8)
          clear b8
          go_wp2_with fail
          go_ret
          exact ⟨rfl, HB8.out⟩
end Go.Proofs.Ytijjagnlfhiogaa
