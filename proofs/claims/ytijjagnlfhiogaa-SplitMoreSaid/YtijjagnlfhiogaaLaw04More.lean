/-
  SplitMore: with more in all no part by weights that are alike is less; weights twice as great turn nothing.
-/
import Derived.Test.YtijjagnlfhiogaaLaw04MoreMath
import Derived.Test.YtijjagnlfhiogaaRowsApart
import Derived.Test.YtijjagnlfhiogaaSaidKit
namespace Go.Proofs.Ytijjagnlfhiogaa
open Go.RowKit

theorem SlK.on {k : IntKind} {w w' : World} {a : Option Addr} {len : Nat} {l : List Int} (h : SlK k w a len l) (hb : Below w.heap.size w w') : SlK k w' a len l := by
  obtain ⟨h1, h2, h3, h4⟩ := h
  refine ⟨h1, h2, h3, ?_⟩
  rcases h4 with h4 | ⟨b, off, h4, h5⟩
  · exact .inl h4
  · exact .inr ⟨b, off, h4, fun i hi => (hb.cell (World.block_lt_of_cell? w _ (h5 i hi))).trans (h5 i hi)⟩

set_option maxHeartbeats 6400000 in
set_option maxRecDepth 100000 in
theorem more_in (T D : Nat) (A : Option Addr) (n cap : Nat) (zs : List Int) (w : World) (hA : SlK .u64 w A n zs) (hT : T ≤ 4294967295) (hD : D ≤ 4294967295) (hn : n ≤ 60) :
    Calls Try.prog 6 #[.int .u32 T, .int .u32 D, .slice A n cap] w fun e w' => e = .returned (.bool true) ∧ Below w.heap.size w w' := by
  obtain ⟨g, hg⟩ : ∃ g : Nat → Nat, ∀ i, g i = (zs.getD i 0).toNat % 1099511627776 := ⟨_, fun _ => rfl⟩
  have hg1 : ∀ i, i < n → g i < 1099511627776 := fun i _ => by rw [hg]; exact Nat.mod_lt _ (by omega)
  have HG := Lib.hid hg1
  have HGE : Hid (∀ i, i < n → zs.getD i 0 % 1099511627776 = ((g i : Nat) : Int)) := Lib.hid (fun i hi => by have := (u64_bounds (hA.2.1 i hi)).1; rw [hg]; omega)
  have hz : ∀ i, i < n → 0 ≤ zs.getD i 0 ∧ zs.getD i 0 ≤ 18446744073709551615 := fun i hi => u64_bounds (hA.2.1 i hi)
  have HZ := Lib.hid hz
  have HC := Lib.hid hA.2.2.2
  obtain ⟨M, hM⟩ : ∃ M, M = T + D := ⟨_, rfl⟩
  have hT2 : (T : Int) + (D : Int) = (M : Int) := by omega
  have hM1 : M ≤ 8589934590 := by omega
  have TW := Lib.hid (PSplit.twice_same T hn hg1)
  have ON := Lib.hid (PSplit.ones_more T M n hn (by omega))
  have SP : Hid (∀ (T : Nat) A c ws w, T ≤ 9223372036854775807 → Sl w A n ws → Calls Try.prog 9 #[.int .i64 T, .slice A n c] w (SplR (PSplit.listOf T ws) (PSplit.errOf T ws) w)) := Lib.hid (fun T A c ws w hT h => split_any T A n c ws w h (by omega))
  have a1 : ¬ (60 : Int) < (n : Int) := by omega
  clear hg hg1 hz hA hM
  go_enter Try.func6, Try.ntmps6
  go_wp2_with fail
  go_loopw [7, 8, 9, 28] (fun p q r i wr => ∃ (k : Nat), k ≤ n ∧ i = .int .i64 k ∧ Hid (wr.ownsRow w.heap.size 3 1 p k (cellsOfInts (PSplit.natL g k))) ∧ Hid (wr.ownsRow w.heap.size 3 1 q k (cellsOfInts (PSplit.natL (fun i => 2 * g i) k))) ∧
      Hid (wr.ownsRow w.heap.size 3 1 r k (cellsOfInts (PSplit.natL (fun _ => 1) k))) ∧ Hid (Ap p q) ∧ Hid (Ap p r) ∧ Hid (Ap q r) ∧ Hid (Below w.heap.size w wr)) (fun _ _ _ i _ => n - (intOf i).toNat)
  case atStart => exact ⟨0, Nat.zero_le _, rfl, (show Hid _ from World.ownsRow_nil _ _ _ _), (show Hid _ from World.ownsRow_nil _ _ _ _), (show Hid _ from World.ownsRow_nil _ _ _ _), (show Hid _ from ap_nil _), (show Hid _ from ap_nil _), (show Hid _ from ap_nil _), (show Hid _ from Below.refl _ _)⟩
  case round =>
    obtain ⟨k, hk, rfl, HP, HQ, HR, APQ, APR, AQR, HB⟩ := hrel
    have hbs := HB.out.size
    by_cases hlt : k < n
    · obtain ⟨b, off, rfl, hc⟩ : ∃ b off, A = some ⟨b, off, none⟩ ∧ ∀ i, i < n → w.cell? ⟨b, off + i, none⟩ = some (.int .u64 (zs.getD i 0)) := by
        rcases HC.out with h | h
        · omega
        · exact h
      have c1 := (HB.out.cell (World.block_lt_of_cell? w _ (hc k hlt))).trans (hc k hlt)
      clear hc
      have hge := HGE.out k hlt
      have hgk := HG.out k hlt
      obtain ⟨z0, z1⟩ := HZ.out k hlt
      obtain ⟨z, hz⟩ : ∃ z, zs.getD k 0 = z := ⟨_, rfl⟩
      rw [hz] at c1 hge z0 z1
      obtain ⟨y, hy⟩ : ∃ y, g k = y := ⟨_, rfl⟩
      rw [hy] at hge hgk
      have HY := Lib.hid hy
      clear hz hy
      have i1 : (0 : Int) ≤ (k : Int) := by omega
      have i2 : (k : Int) < (n : Int) := by omega
      go_wp2_with (at_builtin; refine append_apart rfl _ _ rfl w.heap.size _ k _ ((y : Nat) : Int) (by rfl) HP.out (by rfl) (by omega) hbs ?_)
      intro p' w3 hp3 hb3 hk3
      obtain ⟨hq3, aq3⟩ := hk3 _ _ _ HQ.out APQ.out.symm
      obtain ⟨hr3, ar3⟩ := hk3 _ _ _ HR.out APR.out.symm
      have HP3 := Lib.hid hp3; have HQ3 := Lib.hid hq3; have HR3 := Lib.hid hr3; have AQ3 := Lib.hid aq3; have AR3 := Lib.hid ar3
      have HB3 := Lib.hid (HB.out.trans hb3)
      have hbs3 := HB3.out.size
      clear hp3 hq3 hr3 aq3 ar3 hk3 hb3
      go_wp2_with (at_builtin; refine append_apart rfl _ _ rfl w.heap.size _ k _ (2 * ((y : Nat) : Int)) (by rfl) HQ3.out (by rfl) (by omega) hbs3 ?_)
      intro q' w4 hq4 hb4 hk4
      obtain ⟨hp4, ap4⟩ := hk4 _ _ _ HP3.out AQ3.out.symm
      obtain ⟨hr4, ar4⟩ := hk4 _ _ _ HR3.out AQR.out.symm
      have HP4 := Lib.hid hp4; have HQ4 := Lib.hid hq4; have HR4 := Lib.hid hr4; have AP4 := Lib.hid ap4; have AR4 := Lib.hid ar4
      have HB4 := Lib.hid (HB3.out.trans hb4)
      have hbs4 := HB4.out.size
      clear hp4 hq4 hr4 ap4 ar4 hk4 hb4
      go_wp2_with (at_builtin; refine append_apart rfl _ _ rfl w.heap.size _ k _ 1 (by rfl) HR4.out (by rfl) (by omega) hbs4 ?_)
      intro r' w5 hr5 hb5 hk5
      obtain ⟨hp5, ap5⟩ := hk5 _ _ _ HP4.out AR3.out.symm
      obtain ⟨hq5, aq5⟩ := hk5 _ _ _ HQ4.out AR4.out.symm
      rw [← HY.out, PSplit.natL_next] at hp5
      rw [show (2 : Int) * ((y : Nat) : Int) = (((fun i => 2 * g i) k : Nat) : Int) by show _ = ((2 * g k : Nat) : Int); rw [HY.out]; omega, PSplit.natL_next] at hq5
      rw [show (1 : Int) = (((fun _ => 1) k : Nat) : Int) from rfl, PSplit.natL_next] at hr5
      have HP5 := Lib.hid hp5; have HQ5 := Lib.hid hq5; have HR5 := Lib.hid hr5; have AP5 := Lib.hid ap5; have AQ5 := Lib.hid aq5
      have HB5 := Lib.hid (HB4.out.trans hb5)
      clear hp5 hq5 hr5 ap5 aq5 hk5 hb5
      go_wp2_with fail
      go_roundw
      case rel => exact ⟨k + 1, by omega, by congr 1, HP5, HQ5, HR5, AP4, AP5, AQ5, HB5⟩
      case measure => simp [intOf]; omega
    · obtain rfl : k = n := by omega
      obtain ⟨P1, pc1, rfl, -, -, -, s1⟩ := sl_of_own HP.out (in64_nat (f := g) (fun i hi => by have := HG.out i hi; omega)) (by omega)
      obtain ⟨P2, pc2, rfl, -, -, -, s2⟩ := sl_of_own HQ.out (in64_nat (f := fun i => 2 * g i) (fun i hi => by have := HG.out i hi; show 2 * g i ≤ _; omega)) (by omega)
      obtain ⟨P3, pc3, rfl, -, -, -, s3⟩ := sl_of_own HR.out (in64_nat (f := fun _ => 1) (fun i hi => by omega)) (by omega)
      obtain ⟨w5, h5⟩ : ∃ w5, w5 = wr := ⟨_, rfl⟩
      subst h5
      have S1 := Lib.hid s1; have S2 := Lib.hid s2; have S3 := Lib.hid s3
      have C1 : Hid (∀ A c w, Sl w A k (PSplit.natL g k) → Calls Try.prog 9 #[.int .i64 T, .slice A k c] w (SplR (PSplit.listOf T (PSplit.natL g k)) (PSplit.errOf T (PSplit.natL g k)) w)) := Lib.hid (fun A c w h => SP.out T A c _ w (by omega) h)
      have C2 : Hid (∀ A c w, Sl w A k (PSplit.natL (fun i => 2 * g i) k) → Calls Try.prog 9 #[.int .i64 T, .slice A k c] w (SplR (PSplit.listOf T (PSplit.natL g k)) (PSplit.errOf T (PSplit.natL g k)) w)) := Lib.hid (fun A c w h => by
        have := SP.out T A c _ w (by omega) h
        rw [TW.out.1, TW.out.2] at this; exact this)
      have C3 : Hid (∀ A c w, Sl w A k (PSplit.natL (fun _ => 1) k) → Calls Try.prog 9 #[.int .i64 T, .slice A k c] w (SplR (PSplit.listOf T (PSplit.natL (fun _ => 1) k)) (PSplit.errOf T (PSplit.natL (fun _ => 1) k)) w)) := Lib.hid (fun A c w h => SP.out T A c _ w (by omega) h)
      have C4 : Hid (∀ A c w, Sl w A k (PSplit.natL (fun _ => 1) k) → Calls Try.prog 9 #[.int .i64 (M : Int), .slice A k c] w (SplR (PSplit.listOf (M : Int) (PSplit.natL (fun _ => 1) k)) (PSplit.errOf T (PSplit.natL (fun _ => 1) k)) w)) := Lib.hid (fun A c w h => by
        have := SP.out M A c _ w (by omega) h
        rw [← ON.out.1] at this; exact this)
      obtain ⟨-, hl1, hl2, hle⟩ := ON.out
      clear SP TW ON HG HGE HZ HC HP HQ HR APQ APR AQR s1 s2 s3 hlt
      generalize PSplit.errOf (T : Int) (PSplit.natL g k) = E1 at *
      generalize PSplit.listOf (T : Int) (PSplit.natL g k) = L1 at *
      generalize PSplit.errOf (T : Int) (PSplit.natL (fun _ => 1) k) = E2 at *
      generalize PSplit.listOf (T : Int) (PSplit.natL (fun _ => 1) k) = L2 at *
      generalize PSplit.listOf (M : Int) (PSplit.natL (fun _ => 1) k) = L3 at *
      have HL1 := Lib.hid hl1; have HL2 := Lib.hid hl2; have HLE := Lib.hid hle
      clear hl1 hl2 hle
      have e1 : (E1 != E1) = false := bne_self_eq_false _
      have e2 : (E2 != E2) = false := bne_self_eq_false _
      go_wp2_with fail
      refine (C1.out _ _ _ S1.out).mono ?_
      rintro _ w6 ⟨A1, n1, c1, rfl, -, -, r1, b1⟩
      have R1 := Lib.hid r1; have S2 := Lib.hid (S2.out.on b1); have S3 := Lib.hid (S3.out.on b1); have HB := Lib.hid (below_step HB.out b1)
      clear r1 b1
      go_wp2_with fail
      refine (C2.out _ _ _ S2.out).mono ?_
      rintro _ w7 ⟨A2, n2, c2, rfl, -, -, r2, b2⟩
      have R1 := Lib.hid (R1.out.on b2); have R2 := Lib.hid r2; have S3 := Lib.hid (S3.out.on b2); have HB := Lib.hid (below_step HB.out b2)
      clear r2 b2
      go_wp2_with fail
      refine (C3.out _ _ _ S3.out).mono ?_
      rintro _ w8 ⟨A3, n3, c3, rfl, -, -, r3, b3⟩
      have R1 := Lib.hid (R1.out.on b3); have R2 := Lib.hid (R2.out.on b3); have R3 := Lib.hid r3; have S3 := Lib.hid (S3.out.on b3); have HB := Lib.hid (below_step HB.out b3)
      clear r3 b3
      go_wp2_with fail
      refine (C4.out _ _ _ S3.out).mono ?_
      rintro _ w9 ⟨A4, n4, c4, rfl, -, -, r4, b4⟩
      have R1 := Lib.hid (R1.out.on b4); have R2 := Lib.hid (R2.out.on b4); have R3 := Lib.hid (R3.out.on b4); have R4 := Lib.hid r4; have HB := Lib.hid (below_step HB.out b4)
      clear r4 b4
      obtain rfl : n3 = n4 := by have h3 := R3.out.1; have h4 := R4.out.1; have := HL1.out; omega
      have n33 : ((n3 : Int) != (n3 : Int)) = false := bne_self_eq_false _
      have n3k : n3 ≤ k := by have h3 := R3.out.1; have := HL2.out; omega
      clear C1 C2 C3 C4 S2 S3 S1
      go_wp2_with fail
      refine (same_any A1 A2 n1 n2 c1 c2 _ _ _ R1.out R2.out).mono ?_
      rintro _ w10 ⟨rfl, b5⟩
      rw [decide_eq_true (rfl : L1 = L1)]
      have R3 := Lib.hid (R3.out.on b5); have R4 := Lib.hid (R4.out.on b5); have HBF := Lib.hid (below_step HB.out b5)
      clear b5 R1 R2
      go_wp2_with fail
      clear e1 e2 n33
      go_loopw [102] (fun i wz => ∃ (t q0 : Nat), t ≤ n3 ∧ i = .int .i64 t ∧ wz = w10.drewN q0) (fun i _ => n3 - (intOf i).toNat)
      case atStart => exact ⟨0, 0, Nat.zero_le _, rfl, rfl⟩
      case round =>
        obtain ⟨t, q0, ht, rfl, rfl⟩ := hrel
        by_cases hlt2 : t < n3
        · obtain ⟨b1, o1, rfl, hc1⟩ : ∃ b off, A3 = some ⟨b, off, none⟩ ∧ ∀ i, i < n3 → w10.cell? ⟨b, off + i, none⟩ = some (.int .i64 (L2.getD i 0)) := by
            rcases R3.out.2.2.2 with h | h
            · omega
            · exact h
          obtain ⟨b2, o2, rfl, hc2⟩ : ∃ b off, A4 = some ⟨b, off, none⟩ ∧ ∀ i, i < n3 → w10.cell? ⟨b, off + i, none⟩ = some (.int .i64 (L3.getD i 0)) := by
            rcases R4.out.2.2.2 with h | h
            · omega
            · exact h
          have g1 := hc1 t hlt2
          have g2 := hc2 t hlt2
          have hle := HLE.out t (by rw [R3.out.1]; exact hlt2)
          obtain ⟨x, hx⟩ : ∃ x, L2.getD t 0 = x := ⟨_, rfl⟩
          obtain ⟨y, hy⟩ : ∃ x, L3.getD t 0 = x := ⟨_, rfl⟩
          rw [hx] at g1 hle; rw [hy] at g2 hle
          clear hx hy hc1 hc2
          have j1 : (0 : Int) ≤ (t : Int) := by omega
          have j2 : (t : Int) < (n3 : Int) := by omega
          have d1 : decide (y < x) = false := decide_eq_false (by omega)
          have d2 : ¬ y < x := by omega
          clear hle
          go_wp2_with fail
          go_quiet (fail)
          go_wp2_with fail
          go_roundw
          case rel => exact ⟨t + 1, _, by omega, by congr 1, rfl⟩
          case measure => simp [intOf]; omega
        · obtain rfl : t = n3 := by omega
          go_wp2_with fail
          refine (awake_any _).mono ?_
          rintro _ w11 ⟨rfl, b8⟩
          have HB8 := Lib.hid (below_step (below_drewQ HBF.out q0) b8)
          clear b8
          go_wp2_with fail
          go_ret
          exact ⟨rfl, HB8.out⟩

theorem smore_walk (T D : Int) (A : Option Addr) (n cap : Nat) (zs : List Int) (w : World) (h0 : (Lit.int .u32 T).wf = true) (h1 : (Lit.int .u32 D).wf = true) (hA : SlK .u64 w A n zs) :
    Calls Try.prog 6 #[.int .u32 T, .int .u32 D, .slice A n cap] w fun e w' => e = .returned (.bool true) ∧ Below w.heap.size w w' := by
  obtain ⟨t0, t1⟩ := u32_bounds h0
  obtain ⟨d0, d1⟩ := u32_bounds h1
  have hm := hA.2.2.1
  by_cases hn : n ≤ 60
  · have := more_in T.toNat D.toNat A n cap zs w hA (by omega) (by omega) hn
    rw [show ((T.toNat : Nat) : Int) = T by omega, show ((D.toNat : Nat) : Int) = D by omega] at this
    exact this
  · have a1 : (60 : Int) < (n : Int) := by omega
    clear hA hn
    go_enter Try.func6, Try.ntmps6
    go_wp2_with fail
    refine (awake_any _).mono ?_
    rintro _ w1 ⟨rfl, b1⟩
    go_wp2_with fail
    go_ret
    exact ⟨rfl, b1⟩
end Go.Proofs.Ytijjagnlfhiogaa
