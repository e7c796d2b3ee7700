/-
  MoneySums: sums, differences, and what is taken off 0, of any numbers are what the document says, or refused (of lists at most 100 numbers).
-/
import Derived.Test.YtplbebfpahgmoaaDoorLaw01Awake
import Derived.Test.YtplbebfpahgmoaaDoorMoneySum
import Derived.Test.YtplbebfpahgmoaaDoorRef01Add
import Derived.Test.YtplbebfpahgmoaaDoorSlRow
import Derived.Deep.DeepCutAuto
namespace Go.Proofs.YtplbebfpahgmoaaDoor
open Go.RowKit

/-- What Add and the reference's Add answer of two numbers. -/
def AddAns (a b s e : Int) (ok : Bool) : Prop :=
  (∀ w, Calls Tryd.prog 11 #[.int .i64 a, .int .i64 b] w fun r w' => r = .returned (.tuple #[.int .i64 s, .int .i64 e]) ∧ w = w') ∧
  (∀ w, Calls Tryd.prog 15 #[.int .i64 a, .int .i64 b] w fun r w' => r = .returned (.tuple #[.int .i64 s, .bool ok]) ∧ w = w') ∧
  ((e = 0 ∧ ok = true) ∨ (e = 3 ∧ ok = false))
theorem addAns (a b : Int) (ha : -9223372036854775808 ≤ a) (ha' : a ≤ 9223372036854775807) (hb : -9223372036854775808 ≤ b) (hb' : b ≤ 9223372036854775807) : ∃ s e ok, AddAns a b s e ok := by
  by_cases h : Adds a b
  · exact ⟨a + b, 0, true, fun w => add_yes a b w hb' h, fun w => refadd_yes a b w hb' h, .inl ⟨rfl, rfl⟩⟩
  · exact ⟨0, 3, false, fun w => add_no a b w ha ha' hb hb' h, fun w => refadd_no a b w ha ha' hb hb' h, .inr ⟨rfl, rfl⟩⟩
/-- What Sub answers, and the reference of it: where b is an amount, and where not. -/
def SubAns (a b d f : Int) (rb ok : Bool) : Prop :=
  (∀ w, Calls Tryd.prog 12 #[.int .i64 a, .int .i64 b] w fun r w' => r = .returned (.tuple #[.int .i64 d, .int .i64 f]) ∧ w = w') ∧
  (∀ w, Calls Tryd.prog 17 #[.int .i64 b] w fun r w' => r = .returned (.bool rb) ∧ w = w') ∧
  ((rb = true ∧ -9223372036854775807 ≤ b ∧ (∀ w, Calls Tryd.prog 15 #[.int .i64 a, .int .i64 (-b)] w fun r w' => r = .returned (.tuple #[.int .i64 d, .bool ok]) ∧ w = w')) ∨ (rb = false ∧ d = 0 ∧ ok = false)) ∧
  ((f = 0 ∧ ok = true) ∨ (f = 3 ∧ ok = false))
theorem subAns (a b : Int) (ha : -9223372036854775808 ≤ a) (ha' : a ≤ 9223372036854775807) (hb : -9223372036854775808 ≤ b) (hb' : b ≤ 9223372036854775807) : ∃ d f rb ok, SubAns a b d f rb ok := by
  by_cases h : b < -9223372036854775807
  · exact ⟨0, 3, false, false, fun w => sub_no1 a b w h, fun w => refright_no b w hb h, .inr ⟨rfl, rfl, rfl⟩, .inr ⟨rfl, rfl⟩⟩
  · by_cases h2 : Adds a (-b)
    · exact ⟨a - b, 0, true, true, fun w => sub_yes a b w (by omega) hb' h2, fun w => refright_yes b w (by omega), .inl ⟨rfl, by omega, fun w => by rw [Int.sub_eq_add_neg]; exact refadd_yes a (-b) w (by omega) h2⟩, .inl ⟨rfl, rfl⟩⟩
    · exact ⟨0, 3, true, false, fun w => sub_no2 a b w ha ha' (by omega) hb' h2, fun w => refright_yes b w (by omega), .inl ⟨rfl, by omega, fun w => refadd_no a (-b) w ha ha' (by omega) (by omega) h2⟩, .inr ⟨rfl, rfl⟩⟩
/-- What Neg, Right and the reference's Right answer. -/
def NegAns (a n g : Int) (ra : Bool) : Prop :=
  (∀ w, Calls Tryd.prog 13 #[.int .i64 a] w fun r w' => r = .returned (.tuple #[.int .i64 n, .int .i64 g]) ∧ w = w') ∧
  (∀ w, Calls Tryd.prog 16 #[.int .i64 a] w fun r w' => r = .returned (.bool ra) ∧ w = w') ∧
  (∀ w, Calls Tryd.prog 17 #[.int .i64 a] w fun r w' => r = .returned (.bool ra) ∧ w = w') ∧
  ((ra = true ∧ n = -a ∧ g = 0 ∧ -9223372036854775807 ≤ a) ∨ (ra = false ∧ n = 0 ∧ g = 3))
theorem negAns (a : Int) (ha : -9223372036854775808 ≤ a) (ha' : a ≤ 9223372036854775807) : ∃ n g ra, NegAns a n g ra := by
  by_cases h : a < -9223372036854775807
  · exact ⟨0, 3, false, fun w => neg_no a w h, fun w => right_no a w h, fun w => refright_no a w ha h, .inr ⟨rfl, rfl, rfl⟩⟩
  · exact ⟨-a, 0, true, fun w => neg_ok a w (by omega) ha', fun w => right_yes a w (by omega), fun w => refright_yes a w (by omega), .inl ⟨rfl, rfl, rfl, by omega⟩⟩
/-- What Sum answers. -/
def SumAns (l : List Int) (t h : Int) (all : Bool) : Prop := sumV l = .tuple #[.int .i64 t, .int .i64 h] ∧ ((h = 0 ∧ all = true ∧ sumFrom 0 l = some t) ∨ (h = 3 ∧ all = false ∧ t = 0 ∧ sumFrom 0 l = none))
theorem sumAns (l : List Int) : ∃ t h all, SumAns l t h all := by
  rcases e : sumFrom 0 l with _ | n
  · exact ⟨0, 3, false, sumV_none e, .inr ⟨rfl, rfl, rfl, e⟩⟩
  · exact ⟨n, 0, true, sumV_some e, .inl ⟨rfl, rfl, e⟩⟩

/-- What the law's own sum is after j numbers. -/
def Acc (l : List Int) (j : Nat) (m : Int) (bl : Bool) : Prop := (bl = true ∧ sumFrom 0 (l.take j) = some m) ∨ (bl = false ∧ m = 0 ∧ sumFrom 0 (l.take j) = none)

set_option maxHeartbeats 6400000 in
set_option maxRecDepth 100000 in
theorem sums_small (a b : Int) (v : Option Addr) (len cap : Nat) (l : List Int) (w : World) (ht : Tab w) (hv : Sl w v len l) (hlen : len ≤ 100)
    {s e d f n g t h : Int} {ok rb is ra all : Bool} (hA : AddAns a b s e ok) (hS : SubAns a b d f rb is) (hN : NegAns a n g ra) (hT : SumAns l t h all) (ha : -9223372036854775808 ≤ a) (ha' : a ≤ 9223372036854775807) (hb : -9223372036854775808 ≤ b) (hb' : b ≤ 9223372036854775807) :
    Calls Tryd.prog 3 #[.int .i64 a, .int .i64 b, .slice v len cap] w fun e w' => e = .returned (.bool true) ∧ Below w.heap.size w w' := by
  obtain ⟨hA1, hA2, hA3⟩ := hA
  obtain ⟨hS1, hS2, hS3, hS4⟩ := hS
  obtain ⟨hN1, hN2, hN3, hN4⟩ := hN
  obtain ⟨hT1, hT2⟩ := hT
  have A1 := Lib.hid hA1; have A2 := Lib.hid hA2; have A3 := Lib.hid hA3
  have S1 := Lib.hid hS1; have S2 := Lib.hid hS2; have S3 := Lib.hid hS3; have S4 := Lib.hid hS4
  have N1 := Lib.hid hN1; have N2 := Lib.hid hN2; have N3 := Lib.hid hN3; have N4 := Lib.hid hN4
  have T1 := Lib.hid hT1; have T2 := Lib.hid hT2
  clear hA1 hA2 hA3 hS1 hS2 hS3 hS4 hN1 hN2 hN3 hN4 hT1 hT2
  go_enter Tryd.func3, Tryd.ntmps3
  go_wp2_with fail
  refine (A1.out _).mono ?_
  rintro _ _ ⟨rfl, rfl⟩
  go_wp2_with fail
  refine (S1.out _).mono ?_
  rintro _ _ ⟨rfl, rfl⟩
  go_wp2_with fail
  refine (N1.out _).mono ?_
  rintro _ _ ⟨rfl, rfl⟩
  go_wp2_with fail
  refine (sum_any v len cap l _ hv).mono ?_
  rintro _ _ ⟨rfl, rfl⟩
  rw [T1.out]
  go_wp2_with fail
  refine (A2.out _).mono ?_
  rintro _ _ ⟨rfl, rfl⟩
  go_upto_region 8 with fail
  go_cut [80] (fun x wx => x = .bool false ∧ w = wx)
  case first =>
    rcases A3.out with ⟨rfl, rfl⟩ | ⟨rfl, rfl⟩
    all_goals
      go_wp2_with fail
      refine (N2.out _).mono ?_
      rintro _ _ ⟨rfl, rfl⟩
      go_wp2_with fail
      refine (N3.out _).mono ?_
      rintro _ _ ⟨rfl, rfl⟩
      go_wp2_with fail
      go_meet
      exact ⟨rfl, rfl⟩
  case rest =>
    obtain ⟨rfl, rfl⟩ := hcut
    go_wp2_with fail
    refine (S2.out _).mono ?_
    rintro _ _ ⟨rfl, rfl⟩
    go_upto_if 83 with fail
    go_cut [17, 18] (fun y i wx => y = .int .i64 d ∧ i = .bool is ∧ w = wx)
    case first =>
      rcases S3.out with ⟨rfl, hbl, hc⟩ | ⟨rfl, rfl, rfl⟩
      · have HC := Lib.hid hc; clear hc
        go_wp2_with fail
        (with_reducible refine (HC.out _).mono ?_)
        rintro _ _ ⟨rfl, rfl⟩
        go_wp2_with fail
        go_meet
        exact ⟨rfl, rfl, rfl⟩
      · go_wp2_with fail
        go_meet
        exact ⟨rfl, rfl, rfl⟩
    case rest =>
      obtain ⟨rfl, rfl, rfl⟩ := hcut
      go_upto_region 13 with fail
      go_cut [107] (fun x wx => x = .bool false ∧ w = wx)
      case first =>
        rcases S4.out with ⟨rfl, rfl⟩ | ⟨rfl, rfl⟩
        all_goals
          go_wp2_with fail
          go_meet
          exact ⟨rfl, rfl⟩
      case rest =>
        obtain ⟨rfl, rfl⟩ := hcut
        go_wp2_with fail
        refine (N3.out _).mono ?_
        rintro _ _ ⟨rfl, rfl⟩
        go_upto_if 110 with fail
        go_cut [19] (fun z wx => z = .int .i64 n ∧ w = wx)
        case first =>
          rcases N4.out with ⟨rfl, rfl, rfl, hlo⟩ | ⟨rfl, rfl, rfl⟩
          all_goals
            go_wp2_with fail
            go_meet
            exact ⟨rfl, rfl⟩
        case rest =>
          obtain ⟨rfl, rfl⟩ := hcut
          go_upto_region 18 with fail
          go_cut [129] (fun x wx => x = .bool false ∧ w = wx)
          case first =>
            rcases N4.out with ⟨rfl, rfl, rfl, hlo⟩ | ⟨rfl, rfl, rfl⟩
            all_goals
              go_wp2_with fail
              go_meet
              exact ⟨rfl, rfl⟩
          case rest =>
            obtain ⟨rfl, rfl⟩ := hcut
            go_wp2_with fail
            obtain ⟨hl1, hl2, hl3, hl4⟩ := hv
            have L1 := Lib.hid hl1; clear hl1
            have L2 := Lib.hid hl2; clear hl2
            rcases hl4 with hl4 | ⟨blk, off, rfl, hcell⟩
            · have hl5 : len ≤ 0 := by omega
              clear hl4
              go_loop [21, 22, 132] (fun sm al i => ∃ (j : Nat) (m : Int) (bl : Bool), j ≤ len ∧ i = .int .i64 j ∧ sm = .int .i64 m ∧ al = .bool bl ∧ -9223372036854775807 ≤ m ∧ m ≤ 9223372036854775807 ∧ Acc l j m bl) (fun _ _ i => len - (intOf i).toNat)
              case atStart => exact ⟨0, 0, true, Nat.zero_le _, rfl, rfl, rfl, by omega, by omega, .inl ⟨rfl, rfl⟩⟩
              case round =>
                obtain ⟨j, m, bl, hj, rfl, rfl, rfl, hm, hm', hx⟩ := hrel
                have HX := Lib.hid hx; clear hx
                by_cases hlt : j < len
                · omega
                · obtain rfl : j = len := by omega
                  have HF : Hid ((h = 0 ∧ bl = true ∧ t = m) ∨ (h = 3 ∧ bl = false ∧ t = 0 ∧ m = 0)) := Lib.hid (by
                    have hx := HX.out
                    unfold Acc at hx
                    rw [List.take_of_length_le (Nat.le_of_eq L1.out)] at hx
                    rcases T2.out with ⟨h1, h2, h3⟩ | ⟨h1, h2, h3, h4⟩
                    · rcases hx with ⟨x1, x2⟩ | ⟨x1, x2, x3⟩
                      · rw [h3] at x2; exact .inl ⟨h1, x1, by injection x2⟩
                      · rw [h3] at x3; cases x3
                    · rcases hx with ⟨x1, x2⟩ | ⟨x1, x2, x3⟩
                      · rw [h4] at x2; cases x2
                      · exact .inr ⟨h1, x1, h3, x2⟩)
                  rcases HF.out with ⟨rfl, rfl, rfl⟩ | ⟨rfl, rfl, rfl, rfl⟩
                  all_goals
                    go_wp2_with fail
                    refine (awake_yes _ ht).mono ?_
                    rintro _ w2 ⟨rfl, hb2⟩
                    go_wp2
                    go_ret
                    exact ⟨rfl, hb2⟩
            · have HC := Lib.hid hcell; clear hcell
              go_loop [21, 22, 132] (fun sm al i => ∃ (j : Nat) (m : Int) (bl : Bool), j ≤ len ∧ i = .int .i64 j ∧ sm = .int .i64 m ∧ al = .bool bl ∧ -9223372036854775807 ≤ m ∧ m ≤ 9223372036854775807 ∧ Acc l j m bl) (fun _ _ i => len - (intOf i).toNat)
              case atStart => exact ⟨0, 0, true, Nat.zero_le _, rfl, rfl, rfl, by omega, by omega, .inl ⟨rfl, rfl⟩⟩
              case round =>
                obtain ⟨j, m, bl, hj, rfl, rfl, rfl, hm, hm', hx⟩ := hrel
                have HX := Lib.hid hx; clear hx
                by_cases hlt : j < len
                · have hcj := HC.out j hlt
                  obtain ⟨hb1, hb2⟩ := L2.out j hlt
                  have hlj : j < l.length := by rw [L1.out]; exact hlt
                  generalize hk : l.getD j 0 = k at *
                  have HK := Lib.hid hk; clear hk
                  rcases HX.out with ⟨rfl, hx⟩ | ⟨rfl, rfl, hx⟩
                  · by_cases had : Adds m k
                    · have HD := Lib.hid had
                      obtain ⟨hd1, hd2, hd3, hd4⟩ := had
                      have HY : Hid (Acc l (j + 1) (m + k) true) := .inl ⟨rfl, by rw [← HK.out]; exact sum_next hlj hx (by rw [HK.out]; exact HD.out)⟩
                      clear hx
                      go_wp2_with (go_at_call 15; refine (refadd_yes _ _ _ hb2 HD.out).mono ?_; rintro _ _ ⟨rfl, rfl⟩)
                      go_round
                      case rel => exact ⟨j + 1, m + k, true, by omega, by go_num, rfl, rfl, hd3, hd4, HY.out⟩
                      case measure => simp [intOf]; omega
                    · have HD := Lib.hid had; clear had
                      have HY : Hid (Acc l (j + 1) 0 false) := .inr ⟨rfl, rfl, by rw [take_snocI l j hlj, sumFrom_append, hx, Option.bind_some, HK.out]; simp only [sumFrom]; rw [if_neg HD.out]⟩
                      clear hx
                      go_wp2_with (go_at_call 15; refine (refadd_no _ _ _ (by omega) hm' hb1 hb2 HD.out).mono ?_; rintro _ _ ⟨rfl, rfl⟩)
                      go_round
                      case rel => exact ⟨j + 1, 0, false, by omega, by go_num, rfl, rfl, by omega, by omega, HY.out⟩
                      case measure => simp [intOf]; omega
                  · have HY : Hid (Acc l (j + 1) 0 false) := .inr ⟨rfl, rfl, by rw [take_snocI l j hlj, sumFrom_append, hx]; rfl⟩
                    clear hx
                    go_wp2
                    go_round
                    case rel => exact ⟨j + 1, 0, false, by omega, by go_num, rfl, rfl, by omega, by omega, HY.out⟩
                    case measure => simp [intOf]; omega
                · obtain rfl : j = len := by omega
                  have HF : Hid ((h = 0 ∧ bl = true ∧ t = m) ∨ (h = 3 ∧ bl = false ∧ t = 0 ∧ m = 0)) := Lib.hid (by
                    have hx := HX.out
                    unfold Acc at hx
                    rw [List.take_of_length_le (Nat.le_of_eq L1.out)] at hx
                    rcases T2.out with ⟨h1, h2, h3⟩ | ⟨h1, h2, h3, h4⟩
                    · rcases hx with ⟨x1, x2⟩ | ⟨x1, x2, x3⟩
                      · rw [h3] at x2; exact .inl ⟨h1, x1, by injection x2⟩
                      · rw [h3] at x3; cases x3
                    · rcases hx with ⟨x1, x2⟩ | ⟨x1, x2, x3⟩
                      · rw [h4] at x2; cases x2
                      · exact .inr ⟨h1, x1, h3, x2⟩)
                  rcases HF.out with ⟨rfl, rfl, rfl⟩ | ⟨rfl, rfl, rfl, rfl⟩
                  all_goals
                    go_wp2_with fail
                    refine (awake_yes _ ht).mono ?_
                    rintro _ w2 ⟨rfl, hb2⟩
                    go_wp2
                    go_ret
                    exact ⟨rfl, hb2⟩

set_option maxHeartbeats 800000 in
set_option maxRecDepth 100000 in
theorem sums_great (a b : Int) (v : Option Addr) (len cap : Nat) (w : World) (ht : Tab w) (hlen : 100 < len) :
    Calls Tryd.prog 3 #[.int .i64 a, .int .i64 b, .slice v len cap] w fun e w' => e = .returned (.bool true) ∧ Below w.heap.size w w' := by
  go_enter Tryd.func3, Tryd.ntmps3
  go_wp2_with fail
  refine (awake_yes _ ht).mono ?_
  rintro _ w2 ⟨rfl, hb2⟩
  go_wp2
  go_ret
  exact ⟨rfl, hb2⟩
theorem sums_walk (a b : Int) (v : Option Addr) (len cap : Nat) (zs : List Int) (w : World) (ht : Tab w) (ha : (Lit.int .i64 a).wf = true) (hb : (Lit.int .i64 b).wf = true) (hr : IsRow .i64 w v len cap zs) :
    Calls Tryd.prog 3 #[.int .i64 a, .int .i64 b, .slice v len cap] w fun e w' => e = .returned (.bool true) ∧ Below w.heap.size w w' := by
  by_cases hlen : 100 < len
  · exact sums_great a b v len cap w ht hlen
  · obtain ⟨a0, a1⟩ := i64_bounds ha
    obtain ⟨b0, b1⟩ := i64_bounds hb
    obtain ⟨s, e, ok, hA⟩ := addAns a b a0 a1 b0 b1
    obtain ⟨d, f, rb, is, hS⟩ := subAns a b a0 a1 b0 b1
    obtain ⟨n, g, ra, hN⟩ := negAns a a0 a1
    obtain ⟨t, h, all, hT⟩ := sumAns (zs.take len)
    exact sums_small a b v len cap _ w ht (sl_of_row hr) (by omega) hA hS hN hT a0 a1 b0 b1
end Go.Proofs.YtplbebfpahgmoaaDoor
