/-
  OrderHangs: each rule hangs on none but those ahead of it, and each is there once; where there is no order some rules hang on one another, all round.
-/
import Derived.Test.YtfihdbnecepmfaaGreatDoorLaw11KitG
import Derived.Test.YtfihdbnecepmfaaGreatDoorLS

set_option linter.unusedVariables false
namespace Go.Proofs.YtfihdbnecepmfaaGreatDoor
open Go.RowKit
open PTree (R Ex Tr Rl Row)
open PCheck (Xp Bd)

/-- How a sort ends. -/
theorem ans_ends (names : List (List UInt8)) (H : Nat → Nat → Bool) : (∃ i, POrd.ans names H = ([], i, 6)) ∨ (∃ i, POrd.ans names H = ([], i, 8) ∧ i < names.length ∧ POrd.stuck names.length H i = true) ∨ (∃ l, POrd.ans names H = (l, 0, 0) ∧ l.length = names.length ∧ POrd.Good0 names.length l ∧ POrd.Ahd names.length H l) := by
  unfold POrd.ans
  cases POrd.twice names with
  | some i => exact .inl ⟨i, rfl⟩
  | none =>
    rcases POrd.sortF_ends (n := names.length) (H := H) names.length [] ⟨List.nodup_nil, fun i h => by cases h⟩ (fun j hj => absurd hj (Nat.not_lt_zero _)) (by simp) with ⟨l, e, h1, h2, h3⟩ | ⟨i, e, h1, h2⟩
    · refine .inr (.inr ⟨l, ?_, h1, h2, h3⟩)
      simp only []
      rw [show POrd.sort names.length H = (some l, 0) from e]
    · refine .inr (.inl ⟨i, ?_, h1, h2⟩)
      simp only []
      rw [show POrd.sort names.length H = (none, i) from e]
set_option maxRecDepth 100000 in
set_option maxHeartbeats 12800000 in
theorem ohangs11_walk (s : ByteArray) (w : World) (ht : Tab2 w) (hs : s.size ≤ maxLen) :
    Calls Tryz.prog 5 #[.string s] w (Yes11 w) := by
  obtain ⟨Q, hQ⟩ : ∃ Q, Yes11 w = Q := ⟨_, rfl⟩
  rw [hQ]
  have FIN : Hid (∀ (w' : World), Below w.heap.size w w' → Q (.returned (.bool true)) w') := Lib.hid (fun w' a => by rw [← hQ]; exact ⟨rfl, a⟩)
  have HT := Lib.hid ht
  unfold maxLen at hs
  clear hQ ht
  by_cases h6 : 500 < s.size
  · have hl : (500 : Int) < (s.size : Int) := by omega
    have AW := Lib.hid (aw11_yes w HT.out)
    go_enter Tryz.func5, Tryz.ntmps5
    go_wp2_with (go_at_call 16; refine AW.out.mono ?_)
    intro e1 w1 h1
    obtain ⟨rfl, b1⟩ := h1
    have B1 := Lib.hid b1
    clear b1 AW
    go_wp2_with fail
    exact FIN.out _ B1.out
  have hl : ¬ (500 : Int) < (s.size : Int) := by omega
  cases hp : PTree.parse s.data.toList with
  | none =>
    have PA := Lib.hid (r8parse_any s w (by omega))
    have HP := Lib.hid hp
    clear hp
    go_enter Tryz.func5, Tryz.ntmps5
    go_wp2_with (go_at_call 11; refine PA.out.mono ?_)
    intro e1 w1 h1
    obtain ⟨-, h1⟩ := h1
    rw [HP.out] at h1
    exact h1.elim
  | some r =>
    cases r with
    | bad k q =>
      have PA := Lib.hid (bad11_any hp (by omega))
      clear hp
      have PA1 := Lib.hid (PA.out.2 w)
      go_enter Tryz.func5, Tryz.ntmps5
      go_wp2_with (go_at_call 11; refine PA1.out.mono ?_)
      intro e1 w1 h1
      obtain ⟨rfl, b1, hk0⟩ := h1
      obtain ⟨w2, hw2, YB, b2⟩ : ∃ w2, w1.alloc (.cells #[.slice none 0 0, .slice none 0 0] 33) = w2 ∧ Box w2 w1.heap.size [.slice none 0 0, .slice none 0 0] ∧ Below w1.heap.size w1 w2 := ⟨_, rfl, Box.new _ _ [.slice none 0 0, .slice none 0 0], (Below.refl _ _).alloc (Nat.le_refl _) _⟩
      obtain ⟨w3, hw3, Y3, ON3⟩ := store2 YB (.slice none 0 0) (.slice none 0 0)
      have b3 := ON3.below (Nat.le_refl _) b2
      have B3 := Lib.hid (below_step b1 b3)
      have AW := Lib.hid (aw11_yes w3 (HT.out.on B3.out))
      obtain ⟨y0, y1⟩ := px2 YB
      obtain ⟨z0, z1⟩ := px2f YB
      have hs2 := YB.1
      have HW3 := Lib.hid hw3
      have gk : ((k : Int) == 0) = false := by rw [beq_eq_false_iff_ne]; omega
      clear YB Y3 ON3 b1 b2 b3 hw3 PA PA1 hk0
      go_upto_region 4 with fail
      rw [HW3.out]
      clear HW3 hw2 y0 y1 z0 z1 hs2
      go_wp2_with (go_at_call 16; refine AW.out.mono ?_)
      intro e8 w8 h8
      obtain ⟨rfl, b8⟩ := h8
      have B8 := Lib.hid (below_step B3.out b8)
      clear b8 AW
      go_wp2_with fail
      exact FIN.out _ B8.out
    | ok t rs =>
      obtain ⟨rl, hrl⟩ : ∃ rl, rs.length = rl := ⟨_, rfl⟩
      obtain ⟨sz, hsz⟩ : ∃ sz, PTree.sizeOf rs = sz := ⟨_, rfl⟩
      have hsl : s.data.toList.length ≤ 500 := by rw [Array.length_toList]; show s.size ≤ 500; omega
      have hfit := fit_500 hp hsl
      have hr60 : rl ≤ 60 := by rw [← hrl]; exact hfit.rules
      have hz500 : sz ≤ 500 := by rw [← hsz]; exact hfit.size
      have hnn : (nmR (rwX rs)).length = rl := by rw [nmR_len, rwX_len]; exact hrl
      have PA := Lib.hid (rparse11 hp (by omega) w hrl hsz)
      have PR := Lib.hid (fun w => tparse_fit hp (by omega) w hrl hsz)
      have EN := Lib.hid (ans_ends (nmR (rwX rs)) (POrd.hangs rs))
      obtain ⟨F, hF⟩ : ∃ F, POrd.ans (nmR (rwX rs)) (POrd.hangs rs) = F := ⟨_, rfl⟩
      have CS1 := Lib.hid (fun (wa : World) (A B : Option Addr) (ca cb : Nat) (h1 : SlX rlR wa A rl (rwX rs)) (h2 : SlX xpR wa B sz (xpX rs)) (h0 : sz ≤ cb) (h3 : Tab2 wa) => ksort_any (rc := ca) (c := cb) hfit h1 h2 h0 h3)
      have CHH := Lib.hid (fun (wa : World) (A B : Option Addr) (ca cb : Nat) (h1 : SlX rlR wa A rl (rwX rs)) (h2 : SlX xpR wa B sz (xpX rs)) (j k : Nat) (hj : j < rl) (hk : k < rl) => r11hangs_any (rc := ca) (c := cb) h1 h2 hfit.wf (by omega) (by omega) hj hk)
      have CSS := Lib.hid (fun (wa : World) (A B : Option Addr) (ca cb : Nat) (h1 : SlX rlR wa A rl (rwX rs)) (h2 : SlX xpR wa B sz (xpX rs)) (j : Nat) (hj : j < rl) => r11stuck_any (rc := ca) (c := cb) h1 h2 hfit.wf (by omega) (by omega) hj)
      rw [hF] at CS1 EN
      rw [hnn] at EN
      obtain ⟨H, hH⟩ : ∃ H, POrd.hangs rs = H := ⟨_, rfl⟩
      rw [hH] at EN CHH CSS
      clear hp hrl hsz hsl hfit hnn hF hH
      go_enter Tryz.func5, Tryz.ntmps5
      go_wp2_with (go_at_call 11; refine PA.out.mono ?_)
      intro e1 w1 h1
      obtain ⟨A1, ca1, B1, cb1, rfl, s1, s2, b1⟩ := h1
      obtain ⟨w2, hw2, YB, b2⟩ : ∃ w2, w1.alloc (.cells #[.slice none 0 0, .slice none 0 0] 33) = w2 ∧ Box w2 w1.heap.size [.slice none 0 0, .slice none 0 0] ∧ Below w1.heap.size w1 w2 := ⟨_, rfl, Box.new _ _ [.slice none 0 0, .slice none 0 0], (Below.refl _ _).alloc (Nat.le_refl _) _⟩
      obtain ⟨w3, hw3, Y3, ON3⟩ := store2 YB (.slice A1 rl ca1) (.slice B1 sz cb1)
      have b3 := ON3.below (Nat.le_refl _) b2
      have B3 := Lib.hid (below_step b1 b3)
      have S1 := Lib.hid (s1.on b3); have S2 := Lib.hid (s2.on b3)
      have PR3 := Lib.hid (PR.out w3)
      have HY3 := Lib.hid Y3
      obtain ⟨L, hL⟩ : ∃ L, w1.heap.size = L := ⟨_, rfl⟩
      have HL := Lib.hid hL
      obtain ⟨y0, y1⟩ := px2 YB
      obtain ⟨z0, z1⟩ := px2f YB
      have hs2 := YB.1
      have HW3 := Lib.hid hw3
      clear YB Y3 ON3 b1 b2 b3 hw3 PA s1 s2 PR hL
      go_upto_region 4 with fail
      rw [HW3.out]
      rw [HL.out] at HY3
      rw [HL.out]
      clear HW3 hw2 y0 y1 z0 z1 hs2 HL
      go_wp2_with (go_at_call 10; refine PR3.out.mono ?_)
      intro e5 w5 h5
      obtain ⟨A2, ca2, B2, cb2, rfl, hcb2, s3, s4, b5⟩ := h5
      obtain ⟨w6, hw6, YB, b6⟩ : ∃ w6, w5.alloc (.cells #[.slice none 0 0, .slice none 0 0] 26) = w6 ∧ Box w6 w5.heap.size [.slice none 0 0, .slice none 0 0] ∧ Below w5.heap.size w5 w6 := ⟨_, rfl, Box.new _ _ [.slice none 0 0, .slice none 0 0], (Below.refl _ _).alloc (Nat.le_refl _) _⟩
      obtain ⟨w7, hw7, Y7, ON7⟩ := store2 YB (.slice A2 rl ca2) (.slice B2 sz cb2)
      have b7 := ON7.below (Nat.le_refl _) b6
      have b57 := below_step b5 b7
      have B7 := Lib.hid (below_step B3.out b57)
      have S3 := Lib.hid (s3.on b7); have S4 := Lib.hid (s4.on b7); have S1 := Lib.hid (S1.out.on b57); have S2 := Lib.hid (S2.out.on b57)
      have T7 := HT.out.on B7.out
      have C1 := Lib.hid (CS1.out w7 A2 B2 ca2 cb2 S3.out S4.out hcb2 T7)
      have HT7 := Lib.hid T7
      have HP7 := Lib.hid (HY3.out.on b57)
      obtain ⟨y0, y1⟩ := px2 YB
      obtain ⟨z0, z1⟩ := px2f YB
      have hs6 := YB.1
      obtain ⟨q0, q1⟩ := px2 Y7
      have hs7 := Y7.1
      have HW7 := Lib.hid hw7
      clear YB Y7 ON7 b5 b6 b7 b57 hw7 PR3 s3 s4 T7 HY3
      go_upto_region 7 with fail
      rw [HW7.out]
      clear HW7 hw6 y0 y1 z0 z1 hs6
      go_wp2_with (go_at_call 17; refine C1.out.mono ?_)
      intro e8 w8 h8
      have EE := EN.out
      rcases EE with ⟨i, rfl⟩ | ⟨i, rfl, hir, hst⟩ | ⟨l, rfl, hll, hg, ha⟩
      · obtain ⟨LA, lc, rfl, -, -, b8⟩ := h8
        simp only [List.length_nil] at *
        have B8 := Lib.hid (below_step B7.out b8)
        have AW := Lib.hid (aw11_yes w8 (HT7.out.on b8))
        clear b8 C1 q0 q1 hs7 CS1 EN
        go_wp2_with (go_at_call 16; refine AW.out.mono ?_)
        intro e9 w9 h9
        obtain ⟨rfl, b9⟩ := h9
        have B9 := Lib.hid (below_step B8.out b9)
        clear b9 AW
        go_wp2_with fail
        exact FIN.out _ B9.out
      · obtain ⟨LA, lc, rfl, -, -, b8⟩ := h8
        simp only [List.length_nil] at *
        have B8 := Lib.hid (below_step B7.out b8)
        have HT8 := Lib.hid (HT7.out.on b8)
        have P8 := HP7.out.on b8
        have HP8 := Lib.hid P8
        have CH8 := Lib.hid (fun (wa : World) (hb : Below w8.heap.size w8 wa) (j k : Nat) (hj : j < rl) (hk : k < rl) => CHH.out wa A1 B1 ca1 cb1 ((S1.out.on b8).on hb) ((S2.out.on b8).on hb) j k hj hk)
        have CK8 := Lib.hid (fun (wa : World) (hb : Below w8.heap.size w8 wa) (j : Nat) (hj : j < rl) => CSS.out wa A1 B1 ca1 cb1 ((S1.out.on b8).on hb) ((S2.out.on b8).on hb) j hj)
        have HST := Lib.hid hst
        clear b8 C1 q0 q1 hs7 CS1 EN S1 S2 S3 S4 HP7 HT7 B7 CHH CSS hst
        obtain ⟨q0, q1⟩ := px2 P8
        have hs8 := P8.1
        clear P8
        go_wp2_with fail
        clear q0 q1 hs8
        go_loopw [12, 50] (fun v x wx => ∃ (t N : Nat), t ≤ rl ∧ x = .int .i64 t ∧ v = .int .i64 N ∧ Hid (N < rl) ∧ Hid (POrd.stuck rl H N = true) ∧ Hid (Below w8.heap.size w8 wx)) (fun _ x _ => rl - (intOf x).toNat)
        case atStart => exact ⟨0, i, Nat.zero_le _, rfl, rfl, Lib.hid hir, HST, Lib.hid (Below.refl _ _)⟩
        case round =>
          clear HST hir
          obtain ⟨t, N, htl, rfl, rfl, I1, I2, I3⟩ := hrel
          by_cases htn : t < rl
          · have gt : (t : Int) < (rl : Int) := by omega
            have gN0 : ¬ (N : Int) < 0 := by omega
            have gN : ¬ (rl : Int) ≤ (N : Int) := by have := I1.out; omega
            have gN2 : decide ((rl : Int) ≤ (N : Int)) = false := decide_eq_false gN
            have PX := HP8.out.on I3.out
            obtain ⟨q0, q1⟩ := px2 PX
            have hsx := PX.1
            clear PX
            go_wp2_with fail
            clear q0 q1 hsx
            go_loopw [13, 64] (fun v x wx => ∃ (k : Nat) (y : Int), k ≤ rl ∧ x = .int .i64 k ∧ v = .int .i64 y ∧ Hid ((y = -1 ∧ ∀ k', k' < k → ¬ (H N k' = true ∧ POrd.stuck rl H k' = true)) ∨ ∃ m : Nat, y = m ∧ m < rl ∧ POrd.stuck rl H m = true) ∧ Hid (Below w8.heap.size w8 wx)) (fun _ x _ => rl - (intOf x).toNat)
            case atStart => exact ⟨0, -1, Nat.zero_le _, rfl, rfl, Lib.hid (.inl ⟨rfl, fun k' h => absurd h (Nat.not_lt_zero _)⟩), I3⟩
            case round =>
              clear I3
              obtain ⟨k, y, hk, rfl, rfl, J1, J2⟩ := hrel
              by_cases hkn : k < rl
              · have gk : (k : Int) < (rl : Int) := by omega
                obtain ⟨hb, hhb⟩ : ∃ b, H N k = b := ⟨_, rfl⟩
                have CK := Lib.hid (CH8.out wr J2.out N k I1.out hkn)
                rw [hhb] at CK
                have HHB := Lib.hid hhb
                have PX := HP8.out.on J2.out
                obtain ⟨q0, q1⟩ := px2 PX
                have hsx := PX.1
                clear hhb PX
                cases hb with
                | false =>
                  have NX : Hid ((y = -1 ∧ ∀ k', k' < k + 1 → ¬ (H N k' = true ∧ POrd.stuck rl H k' = true)) ∨ ∃ m : Nat, y = m ∧ m < rl ∧ POrd.stuck rl H m = true) := Lib.hid (by
                    rcases J1.out with ⟨a, b⟩ | a
                    · refine .inl ⟨a, fun k' h1 h2 => ?_⟩
                      by_cases e : k' = k
                      · subst e; rw [HHB.out] at h2; cases h2.1
                      · exact b k' (by omega) h2
                    · exact .inr a)
                  clear J1
                  go_wp2_with (go_at_call 24; refine CK.out.mono ?_)
                  intro e9 w9 h9
                  obtain ⟨rfl, b9⟩ := h9
                  have J2 := Lib.hid (J2.out.trans (b9.mono J2.out.size))
                  clear b9 CK q0 q1 hsx
                  go_wp2_with fail
                  exact ⟨⟨k + 1, y, by omega, rfl, rfl, NX, J2⟩, by simp [intOf]; omega⟩
                | true =>
                  obtain ⟨sb, hsb⟩ : ∃ b, POrd.stuck rl H k = b := ⟨_, rfl⟩
                  have HSB := Lib.hid hsb
                  have HBX := Lib.hid (HP8.out.on J2.out)
                  have CK2 := Lib.hid (fun (wa : World) (hb : Below w8.heap.size w8 wa) => CK8.out wa hb k hkn)
                  rw [hsb] at CK2
                  clear hsb
                  go_wp2_with (go_at_call 24; refine CK.out.mono ?_)
                  intro e9 w9 h9
                  obtain ⟨rfl, b9⟩ := h9
                  have J2 := Lib.hid (J2.out.trans (b9.mono J2.out.size))
                  have PX := HBX.out.on b9
                  have CK3 := Lib.hid (CK2.out w9 J2.out)
                  clear b9 CK q0 q1 hsx HBX CK2
                  obtain ⟨q0, q1⟩ := px2 PX
                  have hsx := PX.1
                  clear PX
                  go_wp2_with (go_at_call 25; refine CK3.out.mono ?_)
                  intro e10 w10 h10
                  obtain ⟨rfl, b10⟩ := h10
                  have J2 := Lib.hid (J2.out.trans (b10.mono J2.out.size))
                  clear b10 CK3 q0 q1 hsx
                  cases sb with
                  | false =>
                    have NX : Hid ((y = -1 ∧ ∀ k', k' < k + 1 → ¬ (H N k' = true ∧ POrd.stuck rl H k' = true)) ∨ ∃ m : Nat, y = m ∧ m < rl ∧ POrd.stuck rl H m = true) := Lib.hid (by
                      rcases J1.out with ⟨a, b⟩ | a
                      · refine .inl ⟨a, fun k' h1 h2 => ?_⟩
                        by_cases e : k' = k
                        · subst e; rw [HSB.out] at h2; cases h2.2
                        · exact b k' (by omega) h2
                      · exact .inr a)
                    clear J1
                    go_wp2_with fail
                    exact ⟨⟨k + 1, y, by omega, rfl, rfl, NX, J2⟩, by simp [intOf]; omega⟩
                  | true =>
                    have NX : Hid (((k : Int) = -1 ∧ ∀ k', k' < k + 1 → ¬ (H N k' = true ∧ POrd.stuck rl H k' = true)) ∨ ∃ m : Nat, (k : Int) = m ∧ m < rl ∧ POrd.stuck rl H m = true) := Lib.hid (.inr ⟨k, rfl, hkn, HSB.out⟩)
                    clear J1
                    go_wp2_with fail
                    exact ⟨⟨k + 1, (k : Int), by omega, rfl, rfl, NX, J2⟩, by simp [intOf]; omega⟩
              · obtain rfl : k = rl := by omega
                have gk : ¬ (k : Int) < (k : Int) := by omega
                have NX : ∃ m : Nat, y = m ∧ m < k ∧ POrd.stuck k H m = true := by
                  rcases J1.out with ⟨-, b⟩ | a
                  · obtain ⟨k', h1, h2, h3⟩ := POrd.stuck_on I1.out I2.out
                    exact absurd ⟨h2, h3⟩ (b k' h1)
                  · exact a
                obtain ⟨m, rfl, hm, hst⟩ := NX
                have HM := Lib.hid hm; have HST := Lib.hid hst
                clear J1 hm hst hkn
                go_wp2_with fail
                first
                  | exact ⟨⟨t + 1, m, by omega, rfl, rfl, HM, HST, J2⟩, by simp [intOf]; omega⟩
                  | exact ⟨⟨_, _, _, _, _, ⟨t + 1, by omega, rfl, m, rfl, HM, HST⟩, rfl, rfl, rfl, rfl, rfl⟩, by simp [intOf]; omega⟩
          · obtain rfl : t = rl := by omega
            have gt : ¬ (t : Int) < (t : Int) := by omega
            have gN0 : (0 : Int) ≤ (N : Int) := by omega
            have AW := Lib.hid (aw11_yes wr (HT8.out.on I3.out))
            go_wp2_with (go_at_call 16; refine AW.out.mono ?_)
            intro e9 w9 h9
            obtain ⟨rfl, b9⟩ := h9
            have B9 := Lib.hid (below_step (below_step B8.out I3.out) b9)
            clear b9 AW
            go_wp2_with fail
            exact FIN.out _ B9.out
      · unfold OrdAns at h8
        simp only [] at h8
        rw [hll] at h8
        obtain ⟨LA, lc, rfl, sl, -, b8⟩ := h8
        have B8 := Lib.hid (below_step B7.out b8)
        have HT8 := Lib.hid (HT7.out.on b8)
        have P8 := HP7.out.on b8
        have HP8 := Lib.hid P8
        have HSL := Lib.hid sl
        have CH8 := Lib.hid (fun (wa : World) (hb : Below w8.heap.size w8 wa) (j k : Nat) (hj : j < rl) (hk : k < rl) => CHH.out wa A1 B1 ca1 cb1 ((S1.out.on b8).on hb) ((S2.out.on b8).on hb) j k hj hk)
        have HG := Lib.hid hg; have HA := Lib.hid ha; have HLL := Lib.hid hll
        have hmk := fun W => make_rowB rl (by omega) W
        have gr : (rl : Int) ≤ 60 := by omega
        obtain ⟨w9, hw9, UR, b9⟩ : ∃ w9, w8.alloc (.cells (madeCells #[.bool false] rl) 4) = w9 ∧ RwB w9 w8.heap.size rl (List.replicate rl false) ∧ Below w8.heap.size w8 w9 := ⟨_, rfl, made_rwB w8 rl, (Below.refl _ _).alloc (Nat.le_refl _) _⟩
        obtain ⟨Y, hY⟩ : ∃ Y, w8.heap.size = Y := ⟨_, rfl⟩
        rw [hY] at UR
        have U9 := Lib.hid UR; have HB9 := Lib.hid b9; have HW9 := Lib.hid hw9; have HY := Lib.hid hY
        have M9 : Hid (∀ k, k < rl → ((List.replicate rl false).getD k false = true ↔ k ∈ l.take 0)) := Lib.hid (fun k hk => by rw [getD_rep]; simp)
        have S9 : Hid (Y < w9.heap.size) := Lib.hid (by rw [← hw9, ← hY]; simp)
        clear b8 C1 q0 q1 hs7 CS1 EN S1 S2 S3 S4 HP7 HT7 B7 CHH CSS hll hg ha sl hw9 UR b9 hY
        obtain ⟨q0, q1⟩ := px2 P8
        have hs8 := P8.1
        clear P8
        go_upto_region 29 with fail
        rw [HW9.out]
        (try rw [HY.out])
        clear HW9 hmk q0 q1 hs8
        go_wp2_with fail
        go_loopw [113] (fun x wx => ∃ (j : Nat) (m : List Bool), j ≤ rl ∧ x = .int .i64 j ∧ Hid (RwB wx Y rl m) ∧ Hid (∀ k, k < rl → (m.getD k false = true ↔ k ∈ l.take j)) ∧ Hid (Below w8.heap.size w8 wx) ∧ Hid (Y < wx.heap.size)) (fun x _ => rl - (intOf x).toNat)
        case atStart => exact ⟨0, _, Nat.zero_le _, rfl, U9, M9, HB9, S9⟩
        case round =>
          clear U9 M9 HB9 S9
          obtain ⟨j, m, hj, rfl, I1, I2, I3, I4⟩ := hrel
          by_cases hjn : j < rl
          · have gj : (j : Int) < (rl : Int) := by omega
            have hjl : j < l.length := by rw [HLL.out]; exact hjn
            obtain ⟨i, hi⟩ : ∃ i, l[j] = i := ⟨_, rfl⟩
            obtain ⟨b, o, x, rfl, hx, c0⟩ := int_at (HSL.out.on I3.out) hjn
            have hx : x = (i : Int) := by
              unfold plI at hx
              rw [List.getElem?_map, List.getElem?_eq_getElem hjl, hi] at hx
              exact (Option.some.inj hx).symm
            subst hx
            have hsc := World.block_lt_of_cell? wr _ c0
            have hir : i < rl := HG.out.lt i (by rw [← hi]; exact List.getElem_mem hjl)
            have hni : i ∉ l.take j := fun h => by
              obtain ⟨q, hq, e⟩ := List.getElem_of_mem h
              rw [List.getElem_take] at e
              rw [List.length_take] at hq
              have hnd := HG.out.nodup
              exact (List.pairwise_iff_getElem.1 hnd q j (by omega) hjl (by omega)) (e.trans hi.symm)
            have hmi : m.getD i false = false := by
              cases h : m.getD i false with
              | false => rfl
              | true => exact absurd ((I2.out i hir).1 h) hni
            obtain ⟨u1, u2⟩ := I1.out.2 i hir
            rw [hmi] at u1
            have hus := World.block_lt_of_cell? wr _ u1
            have hml : m.length = rl := I1.out.1
            have HAH : Hid (∀ k, k < rl → H i k = true → m.getD k false = true) := Lib.hid (fun k hk hh => (I2.out k hk).2 (HA.out j hjl k hk (by rw [hi]; exact hh)))
            have M2 : Hid (∀ k, k < rl → ((m.set i true).getD k false = true ↔ k ∈ l.take (j + 1))) := Lib.hid (fun k hk => by
              rw [getD_set (by omega), I2.out k hk, List.take_succ_eq_append_getElem hjl, List.mem_append, List.mem_singleton, hi]
              exact Or.comm)
            have gi0 : ¬ (i : Int) < 0 := by omega
            have gi : (i : Int) < (rl : Int) := by omega
            have gi1 : ¬ (rl : Int) ≤ (i : Int) := by omega
            have gi2 : decide ((rl : Int) ≤ (i : Int)) = false := decide_eq_false gi1
            have PX := HP8.out.on I3.out
            obtain ⟨q0, q1⟩ := px2 PX
            have hsx := PX.1
            have HIR := Lib.hid hir
            clear PX hx hi hni hmi I2 hir hml hjl u2
            go_wp2_with fail
            clear q0 q1 hsx c0 hsc u1 hus
            go_loopw [134] (fun x wx => ∃ (k : Nat), k ≤ rl ∧ x = .int .i64 k ∧ Hid (RwB wx Y rl m) ∧ Hid (Below w8.heap.size w8 wx) ∧ Hid (Y < wx.heap.size)) (fun x _ => rl - (intOf x).toNat)
            case atStart => exact ⟨0, Nat.zero_le _, rfl, I1, I3, I4⟩
            case round =>
              clear I1 I3 I4
              obtain ⟨k, hk, rfl, J1, J2, J3⟩ := hrel
              by_cases hkn : k < rl
              · have gk : (k : Int) < (rl : Int) := by omega
                obtain ⟨hb, hhb⟩ : ∃ b, H i k = b := ⟨_, rfl⟩
                have CK := Lib.hid (CH8.out wr J2.out i k HIR.out hkn)
                rw [hhb] at CK
                have HHB := Lib.hid hhb
                have PX := HP8.out.on J2.out
                obtain ⟨q0, q1⟩ := px2 PX
                have hsx := PX.1
                clear hhb PX
                cases hb with
                | false =>
                  go_wp2_with (go_at_call 24; refine CK.out.mono ?_)
                  intro e9 w9 h9
                  obtain ⟨rfl, b9⟩ := h9
                  have J1 := Lib.hid (J1.out.on b9)
                  have J2 := Lib.hid (J2.out.trans (b9.mono J2.out.size)); have J3 := Lib.hid (Nat.lt_of_lt_of_le J3.out b9.size)
                  clear b9 CK q0 q1 hsx
                  go_wp2_with fail
                  exact ⟨⟨k + 1, by omega, rfl, J1, J2, J3⟩, by simp [intOf]; omega⟩
                | true =>
                  have hmk := HAH.out k hkn HHB.out
                  have HMK := Lib.hid hmk
                  clear hmk
                  go_wp2_with (go_at_call 24; refine CK.out.mono ?_)
                  intro e9 w9 h9
                  obtain ⟨rfl, b9⟩ := h9
                  have j1 := J1.out.on b9
                  obtain ⟨u1, -⟩ := j1.2 k hkn
                  rw [HMK.out] at u1
                  have hus := World.block_lt_of_cell? w9 _ u1
                  have J1 := Lib.hid j1
                  have J2 := Lib.hid (J2.out.trans (b9.mono J2.out.size)); have J3 := Lib.hid (Nat.lt_of_lt_of_le J3.out b9.size)
                  clear b9 CK q0 q1 hsx j1
                  go_wp2_with fail
                  exact ⟨⟨k + 1, by omega, rfl, J1, J2, J3⟩, by simp [intOf]; omega⟩
              · obtain rfl : k = rl := by omega
                have gk : ¬ (k : Int) < (k : Int) := by omega
                have hYb : w8.heap.size ≤ Y := Nat.le_of_eq HY.out
                obtain ⟨v1, v2⟩ := J1.out.2 i HIR.out
                have K1 := Lib.hid (J1.out.set HIR.out true)
                have K2 := Lib.hid (J2.out.setCell (p := ⟨Y, i, none⟩) hYb (.bool true))
                have K3 : Hid (Y < (wr.setCell ⟨Y, i, none⟩ (.bool true)).heap.size) := Lib.hid (by simp only [World.size_setCell]; exact J3.out)
                have hvs := J3.out
                clear hkn hYb J1 J2 J3
                go_wp2_with fail
                exact ⟨⟨j + 1, m.set i true, by omega, rfl, K1, M2, K2, K3⟩, by simp [intOf]; omega⟩
          · obtain rfl : j = rl := by omega
            have gj : ¬ (j : Int) < (j : Int) := by omega
            have AW := Lib.hid (aw11_yes wr (HT8.out.on I3.out))
            go_wp2_with (go_at_call 16; refine AW.out.mono ?_)
            intro e9 w9 h9
            obtain ⟨rfl, b9⟩ := h9
            have B9 := Lib.hid (below_step (below_step B8.out I3.out) b9)
            clear b9 AW
            go_wp2_with fail
            exact FIN.out _ B9.out
end Go.Proofs.YtfihdbnecepmfaaGreatDoor
