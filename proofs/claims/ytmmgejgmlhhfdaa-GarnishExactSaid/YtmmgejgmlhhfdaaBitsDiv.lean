/-
  math/bits.Div64: the quotient and the remainder of 128 bits by 64.
-/
import Derived.Test.YtmmgejgmlhhfdaaBase
import Derived.Test.YtmmgejgmlhhfdaaKnuthMath
import Derived.Test.YtmmgejgmlhhfdaaShelf
import Derived.Laws.Bits64b
import Derived.Deep.DeepCutAuto
import Derived.Deep.CutBlock
import Derived.Deep.QuietTactic
namespace Go.Proofs.Ytmmgejgmlhhfdaa
open Go.RowKit

theorem below_drew {B : Nat} {a w : World} (h : Below B a w) (n : Nat) : Below B a (w.drewN n) := ⟨h.os, h.tape, h.output, h.size, h.block⟩

set_option maxHeartbeats 1600000 in
theorem div64_flat (lo y : Nat) (w : World) (hy : 0 < y) (h1 : y < 18446744073709551616) (hl : lo < 18446744073709551616) :
    Calls Try.prog 77 #[.int .u64 0, .int .u64 lo, .int .u64 y] w fun e w' => e = .returned (.tuple #[.int .u64 ((lo / y : Nat) : Int), .int .u64 ((lo % y : Nat) : Int)]) ∧ Below w.heap.size w w' := by
  have HF : Hid (IntKind.u64.wrap ((lo : Int) / (y : Int)) = ((lo / y : Nat) : Int) ∧ (lo : Int).tmod (y : Int) = ((lo % y : Nat) : Int)) := Lib.hid (by
    refine ⟨PKnuth.quo_wrap hl, ?_⟩
    · rw [Int.tmod_eq_emod_of_nonneg (by omega), ← Int.natCast_emod])
  go_enter Try.func77, Try.ntmps77
  go_wp2_with fail
  go_quiet (fail)
  go_wp2_with fail
  go_ret2
  exact ⟨by first | (rw [HF.out.1, HF.out.2]; rfl) | (show Ending.returned (.tuple #[.int .u64 _, .int .u64 _]) = _; rw [← Int.natCast_emod, HF.out.1]), below_drew (Below.refl _ _) _⟩

/-- What stands at the head of each of the two loops: a trial that is not less than the digit. -/
def Trial (U d Y Y1 : Nat) (w : World) (q r : Value) (wr : World) : Prop :=
  ∃ Q R : Nat, q = .int .u64 Q ∧ r = .int .u64 R ∧ Q * Y1 + R = U ∧ (U * 4294967296 + d) / Y ≤ Q ∧ Q ≤ 4294967297 ∧ R < 4294967296 ∧ w = wr

set_option maxHeartbeats 3200000 in
set_option maxRecDepth 20000 in
theorem div64_deep (hi lo y s : Nat) (w : World) (h0 : 0 < hi) (hy : hi < y) (_ : y < 18446744073709551616) (hl : lo < 18446744073709551616) (hs : s ≤ 63)
    (hY1 : y * 2 ^ s < 18446744073709551616) (hY2 : 9223372036854775808 ≤ y * 2 ^ s)
    (lz : ∀ w, Calls Try.prog 81 #[.int .u64 y] w fun e w' => e = .returned (.int .i64 s) ∧ w = w') :
    Calls Try.prog 77 #[.int .u64 hi, .int .u64 lo, .int .u64 y] w fun e w' => e = .returned (.tuple #[.int .u64 (((hi * 18446744073709551616 + lo) / y : Nat) : Int), .int .u64 (((hi * 18446744073709551616 + lo) % y : Nat) : Int)]) ∧ w = w' := by
  have LZ := Lib.hid lz; clear lz
  obtain ⟨n1, n2, n3, n4⟩ := PKnuth.norm hs hy hl hY1
  have b3 : lo / 2 ^ (64 - s) < 18446744073709551616 := Nat.lt_of_le_of_lt (Nat.div_le_self _ _) hl
  have e3 := PKnuth.or_add n3 n2 b3
  obtain ⟨n, hn⟩ : ∃ n, hi * 18446744073709551616 + lo = n := ⟨_, rfl⟩
  obtain ⟨Y, hY⟩ : ∃ Y, y * 2 ^ s = Y := ⟨_, rfl⟩
  obtain ⟨U, hU⟩ : ∃ U, hi * 2 ^ s + lo / 2 ^ (64 - s) = U := ⟨_, rfl⟩
  obtain ⟨V, hV⟩ : ∃ V, lo * 2 ^ s % 18446744073709551616 = V := ⟨_, rfl⟩
  have v1 : V < 18446744073709551616 := by rw [← hV]; exact Nat.mod_lt _ (by decide)
  rw [hn, hU, hV] at n4
  rw [hU, hY] at n1
  rw [hY] at hY1 hY2
  rw [hU] at e3
  have E1 : Hid (IntKind.u64.wrap ((y : Int) * 2 ^ s) = (Y : Int)) := Lib.hid (by
    rw [show (y : Int) * 2 ^ s = ((y * 2 ^ s : Nat) : Int) by rw [Int.natCast_mul, Int.natCast_pow]; rfl, hY, IntKind.wrap_u64]; omega)
  have E2 : Hid (IntKind.u64.wrap ((lo : Int) * 2 ^ s) = (V : Int)) := Lib.hid (by
    rw [show (lo : Int) * 2 ^ s = ((lo * 2 ^ s : Nat) : Int) by rw [Int.natCast_mul, Int.natCast_pow]; rfl, IntKind.wrap_u64]; omega)
  have E3 : Hid (bits .or .u64 (IntKind.u64.wrap ((hi : Int) * 2 ^ s)) ((lo : Int) / 2 ^ (64 - s)) = (U : Int)) := Lib.hid (by
    rw [← e3, show (hi : Int) * 2 ^ s = ((hi * 2 ^ s : Nat) : Int) by rw [Int.natCast_mul, Int.natCast_pow]; rfl, IntKind.wrap_u64, Int.emod_eq_of_lt (by omega) (by omega)]
    congr 1)
  have HN := Lib.hid n4; have HY := Lib.hid hY; have Hn := Lib.hid hn
  clear n2 n3 n4 b3 e3 hY hU hV hn
  go_enter Try.func77, Try.ntmps77
  go_wp2_with fail
  refine (LZ.out _).mono ?_
  rintro _ _ ⟨rfl, rfl⟩
  go_upto_region 15 with fail
  rw [E1.out, E2.out, E3.out, PKnuth.mask hY1, PKnuth.mask v1]
  have HS : Hid (Y = Y / 4294967296 * 4294967296 + Y % 4294967296 ∧ V = V / 4294967296 * 4294967296 + V % 4294967296) := Lib.hid ⟨by omega, by omega⟩
  rw [show (Y : Int) / 4294967296 = ((Y / 4294967296 : Nat) : Int) by omega, show (V : Int) / 4294967296 = ((V / 4294967296 : Nat) : Int) by omega]
  have y0 : Y % 4294967296 < 4294967296 := Nat.mod_lt _ (by decide)
  have y1 : 2147483648 ≤ Y / 4294967296 := by omega
  have y2 : Y / 4294967296 < 4294967296 := by omega
  have v0 : V % 4294967296 < 4294967296 := Nat.mod_lt _ (by decide)
  have v2 : V / 4294967296 < 4294967296 := by omega
  generalize Y / 4294967296 = Y1 at *
  generalize Y % 4294967296 = Y0 at *
  generalize V / 4294967296 = V1 at *
  generalize V % 4294967296 = V0 at *
  clear E1 E2 E3
  go_upto_block 0 with fail
  have hU : U < 18446744073709551616 := by omega
  rw [PKnuth.quo_wrap hU, PKnuth.rem_wrap hU]
  obtain ⟨f1, f2⟩ := PKnuth.first HS.out.1 y0 y1 n1 v2
  have F : Hid (Trial U V1 Y Y1 w (.int .u64 ((U / Y1 : Nat) : Int)) (.int .u64 ((U % Y1 : Nat) : Int)) w) := Lib.hid ⟨_, _, rfl, rfl, Nat.div_add_mod' _ _, f1, f2, Nat.lt_trans (Nat.mod_lt _ (by omega)) y2, rfl⟩
  generalize U / Y1 = Q0 at *
  generalize U % Y1 = R0 at *
  clear f1 f2
  obtain ⟨K1, hK1⟩ : ∃ K, (U * 4294967296 + V1) / Y = K := ⟨_, rfl⟩
  have HK1 := Lib.hid hK1; clear hK1
  go_cut [15, 16] (fun q _ wx => q = .int .u64 (K1 : Int) ∧ w = wx)
  case first =>
    go_wp2_with fail
    go_loopw [15, 16] (Trial U V1 Y Y1 w) (fun q _ _ => (intOf q).toNat)
    case atStart => exact F.out
    case round =>
      obtain ⟨Q, R, rfl, rfl, i1, i2, i3, i4, rfl⟩ := hrel
      obtain ⟨x, hx⟩ : ∃ x : Int, (Q : Int) = x := ⟨_, rfl⟩
      obtain ⟨z, hz⟩ : ∃ z : Int, (R : Int) = z := ⟨_, rfl⟩
      have x0 : 0 ≤ x := by omega
      have x1 : x ≤ 4294967297 := by omega
      have z0 : 0 ≤ z := by omega
      have z1 : z < 4294967296 := by omega
      have W1 : Hid (IntKind.u64.wrap (x * (Y0 : Int)) = ((Q * Y0 : Nat) : Int)) := Lib.hid (by rw [← hx]; exact PKnuth.mul_fits i3 y0)
      have ST : Hid (4294967296 ≤ Q ∨ 4294967296 * R + V1 < Q * Y0 → 1 ≤ Q ∧ (Q - 1) * Y1 + (R + Y1) = U ∧ (U * 4294967296 + V1) / Y ≤ Q - 1 ∧ (4294967296 ≤ R + Y1 → (U * 4294967296 + V1) / Y = Q - 1)) := Lib.hid (PKnuth.step HS.out.1 y0 n1 v2 i1 i2 i3)
      have SP : Hid (Q * Y0 ≤ 4294967296 * R + V1 → (U * 4294967296 + V1) / Y = Q) := Lib.hid (PKnuth.stop HS.out.1 n1 i1 i2)
      have I3 := Lib.hid i3; clear i1 i2 i3 i4
      rw [hx, hz]
      have HX := Lib.hid hx; have HZ := Lib.hid hz; clear hx hz
      by_cases hq : 4294967296 ≤ x
      · go_wp2_with fail
        · rename_i hr
          have := HX.out; have := HZ.out; have st := ST.out (.inl (by omega))
          go_meet
          exact ⟨by rw [← HK1.out, st.2.2.2 (by omega)]; congr 1; omega, rfl⟩
        · rename_i hr
          have := HX.out; have := HZ.out; have st := ST.out (.inl (by omega)); have := I3.out
          exact ⟨⟨Q - 1, R + Y1, by congr 1; omega, by congr 1; omega, st.2.1, st.2.2.1, by omega, by omega, rfl⟩, by simp only [intOf]; omega⟩
      · go_wp2_with fail
        · rename_i hc hr
          rw [W1.out] at hc
          have := HX.out; have := HZ.out; have st := ST.out (.inr (by omega))
          go_meet
          exact ⟨by rw [← HK1.out, st.2.2.2 (by omega), IntKind.wrap_u64]; congr 1; omega, rfl⟩
        · rename_i hc hr
          rw [W1.out] at hc
          have := HX.out; have := HZ.out; have st := ST.out (.inr (by omega)); have := I3.out
          exact ⟨⟨Q - 1, R + Y1, by rw [IntKind.wrap_u64]; congr 1; omega, by congr 1; omega, st.2.1, st.2.2.1, by omega, by omega, rfl⟩, by simp only [intOf]; rw [IntKind.wrap_u64]; omega⟩
        · rename_i hc
          rw [W1.out] at hc
          have := HX.out; have := HZ.out; have := SP.out (by omega)
          go_meet
          exact ⟨by rw [← HK1.out, this]; congr 1; omega, rfl⟩
  case rest =>
    obtain ⟨rfl, rfl⟩ := hcut
    clear F
    obtain ⟨u, hu⟩ : ∃ u, (U * 4294967296 + V1) % Y = u := ⟨_, rfl⟩
    have D1 : U * 4294967296 + V1 = K1 * Y + u := by rw [← HK1.out, ← hu]; exact (Nat.div_add_mod' _ _).symm
    have u1 : u < Y := by rw [← hu]; exact Nat.mod_lt _ (by omega)
    have hK : K1 < 4294967296 := by rw [← HK1.out]; exact PKnuth.quot_lt n1 v2
    have HD1 := Lib.hid D1
    have W2 := Lib.hid (PKnuth.left_wrap D1 (by omega))
    clear D1 hu
    go_upto_region 22 with fail
    rw [W2.out]
    have hu : u < 18446744073709551616 := by omega
    go_upto_block 2 with fail
    rw [PKnuth.quo_wrap hu, PKnuth.rem_wrap hu]
    obtain ⟨f1, f2⟩ := PKnuth.first HS.out.1 y0 y1 u1 v0
    have F : Hid (Trial u V0 Y Y1 w (.int .u64 ((u / Y1 : Nat) : Int)) (.int .u64 ((u % Y1 : Nat) : Int)) w) := Lib.hid ⟨_, _, rfl, rfl, Nat.div_add_mod' _ _, f1, f2, Nat.lt_trans (Nat.mod_lt _ (by omega)) y2, rfl⟩
    generalize u / Y1 = Q2 at *
    generalize u % Y1 = R2 at *
    clear f1 f2
    obtain ⟨K0, hK0⟩ : ∃ K, (u * 4294967296 + V0) / Y = K := ⟨_, rfl⟩
    have HK0 := Lib.hid hK0; clear hK0
    go_cut [18, 16] (fun q _ wx => q = .int .u64 (K0 : Int) ∧ w = wx)
    case first =>
      go_wp2_with fail
      go_loopw [18, 16] (Trial u V0 Y Y1 w) (fun q _ _ => (intOf q).toNat)
      case atStart => exact F.out
      case round =>
        obtain ⟨Q, R, rfl, rfl, i1, i2, i3, i4, rfl⟩ := hrel
        obtain ⟨x, hx⟩ : ∃ x : Int, (Q : Int) = x := ⟨_, rfl⟩
        obtain ⟨z, hz⟩ : ∃ z : Int, (R : Int) = z := ⟨_, rfl⟩
        have x0 : 0 ≤ x := by omega
        have x1 : x ≤ 4294967297 := by omega
        have z0 : 0 ≤ z := by omega
        have z1 : z < 4294967296 := by omega
        have W1 : Hid (IntKind.u64.wrap (x * (Y0 : Int)) = ((Q * Y0 : Nat) : Int)) := Lib.hid (by rw [← hx]; exact PKnuth.mul_fits i3 y0)
        have ST : Hid (4294967296 ≤ Q ∨ 4294967296 * R + V0 < Q * Y0 → 1 ≤ Q ∧ (Q - 1) * Y1 + (R + Y1) = u ∧ (u * 4294967296 + V0) / Y ≤ Q - 1 ∧ (4294967296 ≤ R + Y1 → (u * 4294967296 + V0) / Y = Q - 1)) := Lib.hid (PKnuth.step HS.out.1 y0 u1 v0 i1 i2 i3)
        have SP : Hid (Q * Y0 ≤ 4294967296 * R + V0 → (u * 4294967296 + V0) / Y = Q) := Lib.hid (PKnuth.stop HS.out.1 u1 i1 i2)
        have I3 := Lib.hid i3; clear i1 i2 i3 i4
        rw [hx, hz]
        have HX := Lib.hid hx; have HZ := Lib.hid hz; clear hx hz
        by_cases hq : 4294967296 ≤ x
        · go_wp2_with fail
          · rename_i hr
            have := HX.out; have := HZ.out; have st := ST.out (.inl (by omega))
            go_meet
            exact ⟨by rw [← HK0.out, st.2.2.2 (by omega)]; congr 1; omega, rfl⟩
          · rename_i hr
            have := HX.out; have := HZ.out; have st := ST.out (.inl (by omega)); have := I3.out
            exact ⟨⟨Q - 1, R + Y1, by congr 1; omega, by congr 1; omega, st.2.1, st.2.2.1, by omega, by omega, rfl⟩, by simp only [intOf]; omega⟩
        · go_wp2_with fail
          · rename_i hc hr
            rw [W1.out] at hc
            have := HX.out; have := HZ.out; have st := ST.out (.inr (by omega))
            go_meet
            exact ⟨by rw [← HK0.out, st.2.2.2 (by omega), IntKind.wrap_u64]; congr 1; omega, rfl⟩
          · rename_i hc hr
            rw [W1.out] at hc
            have := HX.out; have := HZ.out; have st := ST.out (.inr (by omega)); have := I3.out
            exact ⟨⟨Q - 1, R + Y1, by rw [IntKind.wrap_u64]; congr 1; omega, by congr 1; omega, st.2.1, st.2.2.1, by omega, by omega, rfl⟩, by simp only [intOf]; rw [IntKind.wrap_u64]; omega⟩
          · rename_i hc
            rw [W1.out] at hc
            have := HX.out; have := HZ.out; have := SP.out (by omega)
            go_meet
            exact ⟨by rw [← HK0.out, this]; congr 1; omega, rfl⟩
    case rest =>
      obtain ⟨rfl, rfl⟩ := hcut
      clear F
      obtain ⟨r, hr⟩ : ∃ r, (u * 4294967296 + V0) % Y = r := ⟨_, rfl⟩
      have D0 : u * 4294967296 + V0 = K0 * Y + r := by rw [← HK0.out, ← hr]; exact (Nat.div_add_mod' _ _).symm
      have r1 : r < Y := by rw [← hr]; exact Nat.mod_lt _ (by omega)
      have hK' : K0 < 4294967296 := by rw [← HK0.out]; exact PKnuth.quot_lt u1 v0
      have W3 := Lib.hid (PKnuth.left_wrap D0 (by omega))
      have HB := Lib.hid (PKnuth.both HY.out.symm (by rw [← HS.out.2]; exact HN.out) HD1.out D0 r1)
      clear D0 hr
      go_wp2_with fail
      go_ret2
      refine ⟨?_, rfl⟩
      rw [W3.out, Hn.out, ← HB.out.1, ← HB.out.2, Int.natCast_ediv, Int.natCast_pow]
      rfl

theorem div64_any (hi lo y : Nat) (w : World) (hy : hi < y) (h1 : y < 18446744073709551616) (hl : lo < 18446744073709551616) :
    Calls Try.prog 77 #[.int .u64 hi, .int .u64 lo, .int .u64 y] w fun e w' => e = .returned (.tuple #[.int .u64 (((hi * 18446744073709551616 + lo) / y : Nat) : Int), .int .u64 (((hi * 18446744073709551616 + lo) % y : Nat) : Int)]) ∧ Below w.heap.size w w' := by
  by_cases h0 : hi = 0
  · subst h0
    rw [Nat.zero_mul, Nat.zero_add]
    exact div64_flat lo y w (by omega) h1 hl
  · obtain ⟨l1, l2, l3, l4⟩ := PKnuth.lead (y := y) (by omega) h1
    refine (div64_deep hi lo y (64 - Lib.bitLen y) w (by omega) hy h1 hl (by omega) l4 l3 (fun w => ?_)).mono fun e w' ⟨he, hw⟩ => ⟨he, hw ▸ Below.refl _ _⟩
    refine (Try.bits_LeadingZeros64 y w (by omega) (by omega)).mono fun e w' ⟨he, hw⟩ => ⟨?_, hw.symm⟩
    rw [he, Int.toNat_natCast, Int.ofNat_sub l1]
    rfl
end Go.Proofs.Ytmmgejgmlhhfdaa
