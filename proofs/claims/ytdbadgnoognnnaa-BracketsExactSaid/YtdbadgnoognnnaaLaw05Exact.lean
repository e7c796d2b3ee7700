/-
  BracketsExact: parts, tax and rate of any amount, by any table, and whether that is right, are what the document says, or refused.
-/
import Derived.Test.YtdbadgnoognnnaaLaw05Awake
import Derived.Test.YtdbadgnoognnnaaRef05Tax
import Derived.Test.YtdbadgnoognnnaaRefRight
namespace Go.Proofs.Ytdbadgnoognnnaa
open Go.RowKit

set_option maxHeartbeats 6400000 in
set_option maxRecDepth 100000 in
theorem bexact_in (A : Option Addr) (n cap : Nat) (a r : Nat → Int) (x : Int) (bb : Bool) (w : World) (hA : SlP w A n a r) (hb : bb = true ↔ PBr.Rt a r n) (h0 : -9223372036854775808 ≤ x) (h1 : x ≤ 9223372036854775807) (h40 : n ≤ 40) :
    Calls Try.prog 3 #[.slice A n cap, .int .i64 x] w fun e w' => e = .returned (.bool true) ∧ Below w.heap.size w w' := by
  have HA := Lib.hid hA
  have HBB := Lib.hid hb
  have a1 : ¬ (40 : Int) < (n : Int) := by omega
  have C1 : Hid (∀ w, SlP w A n a r → Calls Try.prog 10 #[.slice A n cap, .int .i64 x] w (SplR (if PBr.errB bb x = 0 then PBr.ptL a n x else []) (PBr.errB bb x) w)) := Lib.hid (fun w h => bparts_any h hb h0 h1)
  have C2 : Hid (∀ w, SlP w A n a r → Calls Try.prog 11 #[.slice A n cap, .int .i64 x] w fun e w' => e = .returned (.tuple #[.int .i64 (if PBr.errB bb x = 0 then ((PBr.tax a r n x : Nat) : Int) else 0), .int .i64 (PBr.errB bb x)]) ∧ Below w.heap.size w w') := Lib.hid (fun w h => btax_any h hb h0 h1)
  have C3 : Hid (∀ w, SlP w A n a r → Calls Try.prog 12 #[.slice A n cap, .int .i64 x] w fun e w' => e = .returned (.tuple #[.int .i64 (if PBr.errB bb x = 0 then PBr.rateTo a r x n else 0), .int .i64 (PBr.errB bb x)]) ∧ Below w.heap.size w w') := Lib.hid (fun w h => brate_any h hb h0 h1)
  have C4 : Hid (∀ w, SlP w A n a r → Calls Try.prog 13 #[.slice A n cap] w fun e w' => e = .returned (.bool bb) ∧ ∃ q, w' = w.drewN q) := Lib.hid (fun w h => reftable_any A n cap a r w h bb hb)
  have C5 : Hid (∀ w, SlP w A n a r → Calls Try.prog 14 #[.slice A n cap] w fun e w' => e = .returned (.bool bb) ∧ Below w.heap.size w w') := Lib.hid (fun w h => bright_any h hb)
  have E3 : Hid (bb = false → PBr.errB bb x = 1) := Lib.hid (fun h => by rw [h]; rfl)
  have E4 : Hid (bb = true → x = -9223372036854775808 → PBr.errB bb x = 3) := Lib.hid (fun h k => by rw [h, k]; rfl)
  have E5 : Hid (bb = true → ¬ x = -9223372036854775808 → PBr.errB bb x = 0) := Lib.hid (fun h k => by rw [h]; exact PBr.errB_ok (by omega))
  clear hA hb
  generalize PBr.errB bb x = E at *
  obtain ⟨L, hL⟩ : ∃ L, L = if E = 0 then PBr.ptL a n x else [] := ⟨_, rfl⟩
  obtain ⟨T, hT⟩ : ∃ T, T = if E = 0 then ((PBr.tax a r n x : Nat) : Int) else 0 := ⟨_, rfl⟩
  obtain ⟨K, hK⟩ : ∃ T, T = if E = 0 then PBr.rateTo a r x n else 0 := ⟨_, rfl⟩
  rw [← hL] at C1; rw [← hT] at C2; rw [← hK] at C3
  have HL := Lib.hid hL; have HT := Lib.hid hT; have HK := Lib.hid hK
  clear hL hT hK
  go_enter Try.func3, Try.ntmps3
  go_wp2_with fail
  refine (C1.out _ HA.out).mono ?_
  rintro _ w1 ⟨B, k, c, rfl, -, -, s1, b1⟩
  have S1 := Lib.hid s1; have HA1 := Lib.hid (HA.out.on b1); have B1 := Lib.hid b1
  clear s1 b1 HA C1
  go_wp2_with fail
  refine (C2.out _ HA1.out).mono ?_
  rintro _ w2 ⟨rfl, b2⟩
  have S2 := Lib.hid (S1.out.on b2); have HA2 := Lib.hid (HA1.out.on b2); have B2 := Lib.hid (below_step B1.out b2)
  clear b2 HA1 S1 B1 C2
  go_wp2_with fail
  refine (C3.out _ HA2.out).mono ?_
  rintro _ w3 ⟨rfl, b3⟩
  have S3 := Lib.hid (S2.out.on b3); have HA3 := Lib.hid (HA2.out.on b3); have B3 := Lib.hid (below_step B2.out b3)
  clear b3 HA2 S2 B2 C3
  go_wp2_with fail
  refine (C4.out _ HA3.out).mono ?_
  rintro _ _ ⟨rfl, q4, rfl⟩
  have b4 : Below w3.heap.size w3 (w3.drewN q4) := below_drewN (Below.refl _ _) _
  have S4 := Lib.hid (S3.out.on b4); have HA4 := Lib.hid (HA3.out.on b4); have B4 := Lib.hid (below_step B3.out b4)
  clear b4 HA3 S3 B3 C4
  generalize w3.drewN q4 = w4 at *
  go_wp2_with fail
  refine (C5.out _ HA4.out).mono ?_
  rintro _ w5 ⟨rfl, b5⟩
  have S5 := Lib.hid (S4.out.on b5); have HA5 := Lib.hid (HA4.out.on b5); have B5 := Lib.hid (below_step B4.out b5)
  clear b5 HA4 S4 B4 C5
  have e1 : (E != E) = false := bne_self_eq_false _
  have e2 : (bb != bb) = false := bne_self_eq_false _
  cases bb with
  | false =>
    have hE := E3.out rfl
    have hL := HL.out; have hT := HT.out; have hK := HK.out
    rw [hE, if_neg (by decide)] at hL hT hK
    subst hE hT hK
    obtain rfl : k = 0 := by have := S5.out.1; rw [hL] at this; exact this.symm
    clear hL HL HT HK E3 E4 E5 S5 HBB
    go_wp2_with fail
    refine (awake_any _).mono ?_
    rintro _ w6 ⟨rfl, b6⟩
    have B6 := Lib.hid (below_step B5.out b6)
    clear b6
    go_wp2_with fail
    go_ret
    exact ⟨rfl, B6.out⟩
  | true =>
    by_cases hx : x = -9223372036854775808
    · have hE := E4.out rfl hx
      have hL := HL.out; have hT := HT.out; have hK := HK.out
      rw [hE, if_neg (by decide)] at hL hT hK
      subst hE hT hK
      obtain rfl : k = 0 := by have := S5.out.1; rw [hL] at this; exact this.symm
      clear hL HL HT HK E3 E4 E5 S5 HBB
      go_wp2_with fail
      refine (refright_no' _ _ rfl).mono ?_
      rintro _ _ ⟨rfl, rfl⟩
      go_wp2_with fail
      refine (awake_any _).mono ?_
      rintro _ w6 ⟨rfl, b6⟩
      have B6 := Lib.hid (below_step B5.out b6)
      clear b6
      go_wp2_with fail
      go_ret
      exact ⟨rfl, B6.out⟩
    · have hE := E5.out rfl hx
      have hR := HBB.out.1 rfl
      have hL := HL.out; have hT := HT.out; have hK := HK.out
      rw [hE, if_pos rfl] at hL hT hK
      subst hE hT hK
      obtain rfl : n = k := by have := S5.out.1; rw [hL, PBr.ptL_len] at this; exact this
      subst hL
      have HR := Lib.hid hR
      have nn : ((n : Int) != (n : Int)) = false := bne_self_eq_false _
      have tt : (((PBr.tax a r n x : Nat) : Int) != ((PBr.tax a r n x : Nat) : Int)) = false := bne_self_eq_false _
      have hx' : -9223372036854775807 ≤ x := by omega
      obtain ⟨Q, hQ⟩ : ∃ Q, Q = PBr.tax a r n x := ⟨_, rfl⟩
      have C6 : Hid (∀ w, SlP w A n a r → Calls Try.prog 16 #[.slice A n cap, .int .i64 x] w fun e w' => e = .returned (.int .i64 (Q : Nat)) ∧ Below w.heap.size w w') := Lib.hid (fun w h => by rw [hQ]; exact reftax_any A n cap a r x w h HR.out h1)
      rw [← hQ] at tt ⊢
      clear HL HT HK E3 E4 E5 HBB hR hx hQ
      go_wp2_with fail
      refine (refright_yes' x _ hx').mono ?_
      rintro _ _ ⟨rfl, rfl⟩
      go_wp2_with fail
      refine (C6.out _ HA5.out).mono ?_
      rintro _ w6 ⟨rfl, b6⟩
      have S6 := Lib.hid (S5.out.on b6); have HA6 := Lib.hid (HA5.out.on b6); have B6 := Lib.hid (below_step B5.out b6)
      clear b6 S5 HA5 B5 C6
      go_wp2_with fail
      obtain ⟨w0, hw0⟩ : ∃ w0, w0 = w6 := ⟨_, rfl⟩
      subst hw0
      go_loopw [13, 99] (fun s i wr => ∃ (t : Nat), t ≤ n ∧ i = .int .i64 t ∧ s = .int .i64 (PBr.rateTo a r x t) ∧ Hid (Below w0.heap.size w0 wr)) (fun _ i _ => n - (intOf i).toNat)
      case atStart => exact ⟨0, Nat.zero_le _, rfl, rfl, (show Hid _ from Below.refl _ _)⟩
      case round =>
        obtain ⟨t, ht, rfl, rfl, HB⟩ := hrel
        have ST := Lib.hid (S6.out.on HB.out)
        have AT := Lib.hid (HA6.out.on HB.out)
        by_cases hlt : t < n
        · obtain ⟨b, off, rfl, hc⟩ : ∃ b off, B = some ⟨b, off, none⟩ ∧ ∀ i, i < n → wr.cell? ⟨b, off + i, none⟩ = some (.int .i64 ((PBr.ptL a n x).getD i 0)) := by
            rcases ST.out.2.2.2 with h | h
            · omega
            · exact h
          obtain ⟨b2, o2, rfl, hc2⟩ := slp_cells AT.out hlt
          have c1 := hc t hlt
          rw [PBr.ptL_get hlt] at c1
          obtain ⟨c2, c3⟩ := hc2 t hlt
          have hsz := World.block_lt_of_cell? wr _ c1
          have hsz2 := World.block_lt_of_cell? wr _ c2
          obtain ⟨u, hu⟩ : ∃ u, a t = u := ⟨_, rfl⟩
          obtain ⟨v, hv⟩ : ∃ u, r t = u := ⟨_, rfl⟩
          obtain ⟨p, hp⟩ : ∃ p, PBr.pt a n t x = p := ⟨_, rfl⟩
          obtain ⟨K, hK⟩ : ∃ K, PBr.rateTo a r x t = K := ⟨_, rfl⟩
          have CP : Hid (∀ w', Below wr.heap.size wr w' → Calls Try.prog 17 #[.slice (some ⟨b2, o2, none⟩) n cap, .int .i64 t, .int .i64 x] w' fun e w'' => e = .returned (.int .i64 p) ∧ ∃ q, w'' = w'.drewN q) := Lib.hid (fun w' h => by
            have := refpart_any (some ⟨b2, o2, none⟩) n cap t a r x w' (AT.out.on h) HR.out hlt h1
            rw [hp] at this; exact this)
          rw [hp] at c1; rw [hu] at c2; rw [hv] at c3; rw [hK]
          have pp : (p != p) = false := bne_self_eq_false _
          have i1 : (0 : Int) ≤ (t : Int) := by omega
          have i2 : (t : Int) < (n : Int) := by omega
          by_cases hux : u < x
          · have HN : Hid (PBr.rateTo a r x (t + 1) = v) := Lib.hid (by simp only [PBr.rateTo]; rw [if_pos (by rw [hu]; exact hux), hv])
            clear hc hc2 hu hv hp hK ST AT
            go_wp2_with fail
            go_quiet (first | (go_at_call 17; refine Calls.quiet_of (CP.out _ ?_); exact below_drewN ((Below.refl _ _).alloc (Nat.le_refl _) _) _))
            go_wp2_with fail
            have B9 : Hid (Below w0.heap.size w0 ((wr.alloc (.cells #[.int .i64 u, .int .i64 v] 34)).drewN nq)) := Lib.hid (below_drewN (HB.out.alloc HB.out.size _) _)
            go_roundw
            case rel => exact ⟨t + 1, by omega, by congr 1, by rw [HN.out], B9⟩
            case measure => simp [intOf]; omega
          · have HN : Hid (PBr.rateTo a r x (t + 1) = K) := Lib.hid (by simp only [PBr.rateTo]; rw [if_neg (by rw [hu]; exact hux), hK])
            clear hc hc2 hu hv hp hK ST AT
            go_wp2_with fail
            go_quiet (first | (go_at_call 17; refine Calls.quiet_of (CP.out _ ?_); exact below_drewN ((Below.refl _ _).alloc (Nat.le_refl _) _) _))
            go_wp2_with fail
            have B9 : Hid (Below w0.heap.size w0 ((wr.alloc (.cells #[.int .i64 u, .int .i64 v] 34)).drewN nq)) := Lib.hid (below_drewN (HB.out.alloc HB.out.size _) _)
            go_roundw
            case rel => exact ⟨t + 1, by omega, by congr 1, by rw [HN.out], B9⟩
            case measure => simp [intOf]; omega
        · obtain rfl : t = n := by omega
          have kk : (PBr.rateTo a r x t == PBr.rateTo a r x t) = true := beq_self_eq_true _
          go_wp2_with fail
          refine (awake_any _).mono ?_
          rintro _ w7 ⟨rfl, b7⟩
          have B7 := Lib.hid (below_step B6.out (below_step HB.out b7))
          clear b7
          go_wp2_with fail
          go_ret
          exact ⟨rfl, B7.out⟩

theorem bexact_walk (A : Option Addr) (n cap : Nat) (a r : Nat → Int) (x : Int) (w : World) (hA : SlP w A n a r) (hx : (Lit.int .i64 x).wf = true) :
    Calls Try.prog 3 #[.slice A n cap, .int .i64 x] w fun e w' => e = .returned (.bool true) ∧ Below w.heap.size w w' := by
  obtain ⟨h0, h1⟩ := i64_bounds hx
  have hm := hA.2.1
  by_cases h40 : 40 < n
  · have a1 : (40 : Int) < (n : Int) := by omega
    clear hA
    go_enter Try.func3, Try.ntmps3
    go_wp2_with fail
    refine (awake_any _).mono ?_
    rintro _ w1 ⟨rfl, b1⟩
    go_wp2_with fail
    go_ret
    exact ⟨rfl, b1⟩
  by_cases hR : PBr.Rt a r n
  · exact bexact_in A n cap a r x true w hA ⟨fun _ => hR, fun _ => rfl⟩ h0 h1 (by omega)
  · exact bexact_in A n cap a r x false w hA ⟨fun h => (by cases h), fun h => absurd h hR⟩ h0 h1 (by omega)
end Go.Proofs.Ytdbadgnoognnnaa
