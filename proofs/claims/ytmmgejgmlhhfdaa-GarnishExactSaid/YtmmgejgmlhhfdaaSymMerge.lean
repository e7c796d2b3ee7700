/-
  slices.symMergeCmpFunc: two sorted ranges, one behind the other, are one sorted range afterwards.
-/
import Derived.Test.YtmmgejgmlhhfdaaSymRight
import Derived.Deep.DeepCutAuto
namespace Go.Proofs.Ytmmgejgmlhhfdaa
open Go.RowKit Go.Sort Go.Lib PSym

/-- The middle, in plain numbers. -/
theorem mid_facts {a m b mid lo hi : Nat} (ham : a + 1 < m) (hmb : m + 1 < b) (hm : mid = (a + b) / 2) (hlo : lo = if mid < m then mid + m - b else a) (hhi : hi = if mid < m then mid else m) :
    a ≤ lo ∧ lo ≤ hi ∧ hi ≤ m ∧ hi ≤ mid ∧ (∀ s, lo ≤ s → s ≤ hi → a ≤ s ∧ s ≤ m ∧ s ≤ mid ∧ m ≤ mid + m - s ∧ mid ≤ mid + m - s ∧ mid + m - s ≤ b) ∧ a < mid ∧ mid < b ∧ (∀ s, lo ≤ s → s ≤ hi → (a < s → mid + m - s < b → lo < s) ∧ (s < m → m < mid + m - s → s < hi)) := by
  by_cases h : mid < m
  · rw [if_pos h] at hlo hhi; refine ⟨by omega, by omega, by omega, by omega, fun s h1 h2 => by omega, by omega, by omega, fun s h1 h2 => ⟨fun _ _ => by omega, fun _ _ => by omega⟩⟩
  · rw [if_neg h] at hlo hhi; refine ⟨by omega, by omega, by omega, by omega, fun s h1 h2 => by omega, by omega, by omega, fun s h1 h2 => ⟨fun _ _ => by omega, fun _ _ => by omega⟩⟩

set_option maxHeartbeats 8000000 in
set_option maxRecDepth 100000 in
theorem sym_any (n blk off cap N : Nat) (g : Nat) (cb : Array Value) (cf : Fin (n + 1) → Fin (n + 1) → Int) (lt : Fin (n + 1) → Fin (n + 1) → Bool) (hS : SWO lt) (eg : ∀ args w, (callFunc g args).run Try.prog w = .ok (.enter g args) w)
    (d0 : Array (Fin (n + 1))) (w0 : World) (hC : CmpReads Try.prog g cb enc1 cf blk off N w0) (R : Row1 enc1 w0 blk off d0) (hN : d0.size = N) (hsz : N ≤ 1000) : ∀ (K a m b : Nat) (d : Array (Fin (n + 1))) (w : World), b - a ≤ K → d.size = N → SW enc1 w0 blk off d w →
    a < m → m < b → b ≤ N → SortedIn lt a m d → SortedIn lt m b d → Agr (ltOf cf) lt a m b d →
    Calls Try.prog 84 #[.slice (some ⟨blk, off, none⟩) N cap, .int .i64 a, .int .i64 m, .int .i64 b, .func (.func g) #[] cb] w fun e w' =>
      e = .returned (.tuple #[]) ∧ ∃ d', SW enc1 w0 blk off d' w' ∧ PermIn a b d d' ∧ SortedIn lt a b d' := by
  intro K
  induction K with
  | zero => intro a m b d w hK _ _ h1 h2; omega
  | succ K ih =>
  intro a m b d w hK hs S ham hmb hb hl hr hA
  by_cases h1 : a + 1 = m
  · exact symLeft_any n blk off cap a m b N g cb cf lt hS eg d0 d w0 w hC R hN hs S h1 hmb hb hsz hr hA
  by_cases h2 : m + 1 = b
  · exact symRight_any n blk off cap a m b N g cb cf lt hS eg d0 d w0 w hC R hN hs S (by omega) h2 hb hsz hl hA
  have IH : Aside _ := ih
  have S0 : Aside (SW enc1 w0 blk off d w) := S
  have HC : Aside _ := hC
  have HA : Aside _ := hA
  have HR : Aside _ := hr
  have HLs : Aside _ := hl
  clear S hC hA hr hl ih
  have w1 : IntKind.i64.wrap ((m : Int) - (a : Int)) = (m : Int) - (a : Int) := by rw [IntKind.wrap_i64]; omega
  have e1' : ¬ ((m : Int) - (a : Int)) = 1 := by omega
  have w2 : IntKind.i64.wrap ((b : Int) - (m : Int)) = (b : Int) - (m : Int) := by rw [IntKind.wrap_i64]; omega
  have e2' : ¬ ((b : Int) - (m : Int)) = 1 := by omega
  obtain ⟨mid, hmid⟩ : ∃ h : Nat, ((a : Int) + (b : Int)) / 2 = (h : Int) := ⟨(a + b) / 2, by omega⟩
  obtain ⟨lo, hlo⟩ : ∃ lo, lo = if mid < m then mid + m - b else a := ⟨_, rfl⟩
  obtain ⟨hi, hhi⟩ : ∃ hi, hi = if mid < m then mid else m := ⟨_, rfl⟩
  obtain ⟨f1, f2, f3, f4, f5, f6, f7, f8⟩ := mid_facts (a := a) (m := m) (b := b) (mid := mid) (lo := lo) (hi := hi) (by omega) (by omega) (by omega) hlo hhi
  have F5 := Lib.hid f5; have F8 := Lib.hid f8; have HLO := Lib.hid hlo; have HHI := Lib.hid hhi
  clear f5 f8 hlo hhi
  obtain ⟨pp, hpp⟩ : ∃ p : Nat, p + 1 = mid + m := ⟨mid + m - 1, by omega⟩
  have w3 : IntKind.i64.wrap ((mid : Int) + (m : Int) - 1) = (pp : Int) := by rw [IntKind.wrap_i64]; omega
  have e3 : (mid : Int) + (m : Int) - 1 = (pp : Int) := by omega
  go_enter Try.func84, Try.ntmps84
  go_upto_if 140 with fail
  go_cut [20, 21] (fun s r wx => s = .int .i64 lo ∧ r = .int .i64 hi ∧ w = wx)
  case first =>
    as_aux_lemma =>
      by_cases hmm : mid < m
      · have z1 : (mid : Int) < (m : Int) := by omega
        have q1 := HLO.out; have q2 := HHI.out
        rw [if_pos hmm] at q1 q2
        have w4 : IntKind.i64.wrap ((mid : Int) + (m : Int) - (b : Int)) = (lo : Int) := by rw [IntKind.wrap_i64]; omega
        have e4 : (mid : Int) + (m : Int) - (b : Int) = (lo : Int) := by omega
        have e5 : (hi : Int) = (mid : Int) := by omega
        clear q1 q2
        go_wp2_with fail
        go_meet
        exact ⟨by first | rfl | go_num, by rw [e5], rfl⟩
      · have z1 : ¬ (mid : Int) < (m : Int) := by omega
        have q1 := HLO.out; have q2 := HHI.out
        rw [if_neg hmm] at q1 q2
        clear hmm
        subst q1; subst q2
        go_wp2_with fail
        go_meet
        exact ⟨rfl, rfl, rfl⟩
  case rest =>
    as_aux_lemma =>
      obtain ⟨rfl, rfl, rfl⟩ := hcut
      go_wp2_with fail
      go_loopg [20, 21] (hi - lo) (fun gg vi vj wr => ∃ (i j : Nat), vi = .int .i64 i ∧ vj = .int .i64 j ∧ lo ≤ i ∧ i ≤ j ∧ j ≤ hi ∧ j - i ≤ gg ∧ Aside (SW enc1 w0 blk off d wr) ∧ Hid (∀ c, lo ≤ c → c < i → lt (at' d (pp - c)) (at' d c) = false) ∧ Hid (∀ c, j ≤ c → c < hi → lt (at' d (pp - c)) (at' d c) = true))
      case atStart => exact ⟨lo, hi, rfl, rfl, by omega, by omega, by omega, by omega, S0, (show Hid _ from fun h h1 h2 => by omega), (show Hid _ from fun h h1 h2 => by omega)⟩
      case round =>
        clear S0
        obtain ⟨i, j, rfl, rfl, hmi, hij, hjb, hg, S1, HL, HG⟩ := hrel
        by_cases hlt : i < j
        · have hltz : (i : Int) < (j : Int) := by omega
          obtain ⟨c, hc0⟩ : ∃ h : Nat, ((i : Int) + (j : Int)) / 2 = (h : Int) := ⟨(i + j) / 2, by omega⟩
          have h1 : i ≤ c := by omega
          have h2 : c < j := by omega
          obtain ⟨u, hu⟩ : ∃ u : Nat, u + c = pp := ⟨pp - c, by omega⟩
          have wu : IntKind.i64.wrap ((pp : Int) - (c : Int)) = (u : Int) := by rw [IntKind.wrap_i64]; omega
          have eu : (pp : Int) - (c : Int) = (u : Int) := by omega
          have hf5 := F5.out c (by omega) (by omega)
          have hum : m ≤ u := by have := F5.out (c + 1) (by omega) (by omega); omega
          have hub : u < b := by omega
          have hca : a ≤ c := hf5.1
          have hcm : c < m := by omega
          obtain ⟨x, hx⟩ : ∃ x : Int, x = ((at' d u).val : Int) := ⟨_, rfl⟩
          obtain ⟨y, hy⟩ : ∃ x : Int, x = ((at' d c).val : Int) := ⟨_, rfl⟩
          have c1 := sw_cell S1.out R (by omega) u (by omega)
          have c2 := sw_cell S1.out R (by omega) c (by omega)
          have hc := sw_cmp S1.out HC.out hs u c
          rw [← hx] at c1 hc
          rw [← hy] at c2 hc
          have b1 : (u : Int) < (N : Int) := by omega
          have b2 : (c : Int) < (N : Int) := by omega
          obtain ⟨z, hz⟩ : ∃ z : Int, z = cf (at' d u) (at' d c) := ⟨_, rfl⟩
          rw [← hz] at hc
          have hag : decide (z < 0) = lt (at' d u) (at' d c) := by rw [hz]; exact HA.out c u hca hcm hum hub
          clear hx hy hz hf5
          cases hlv : lt (at' d u) (at' d c) with
          | false =>
            as_aux_lemma =>
              have hzn : ¬ z < 0 := of_decide_eq_false (hag.trans hlv)
              have hnd : (!decide (z < 0)) = true := by rw [decide_eq_false hzn]; rfl
              have HL2 : Hid (∀ t, lo ≤ t → t < c + 1 → lt (at' d (pp - t)) (at' d t) = false) := fun t t1 t2 => by
                by_cases ht : t < i
                · exact HL.out t t1 ht
                · have k0 := F5.out t t1 (by omega)
                  have k1 := sorted_le hS HLs.out t c (by omega) (by omega) hcm
                  have k2 := sorted_le hS HR.out u (pp - t) hum (by omega) (by have := F5.out t t1 (by omega); omega)
                  exact hS.ntrans _ _ _ (hS.ntrans _ _ _ k2 hlv) k1
              have S2 : ∀ k, Aside (SW enc1 w0 blk off d (wr.drewN k)) := fun k => S1.out.drewN k
              have HS2 := Lib.hid S2
              clear S1 S2 HL hag hlv
              go_wp2_with fail
              go_quiet (first | (go_at_fn g; refine Calls.quiet_of (hc _)))
              go_wp2_with fail
              go_roundg (j - (c + 1))
              case measure => omega
              case rel => exact ⟨c + 1, j, by go_num, rfl, by omega, by omega, by omega, by omega, HS2.out _, HL2, HG⟩
          | true =>
            as_aux_lemma =>
              have hzn : z < 0 := of_decide_eq_true (hag.trans hlv)
              have HG2 : Hid (∀ t, c ≤ t → t < hi → lt (at' d (pp - t)) (at' d t) = true) := fun t t1 t2 => by
                have k0 := F5.out t (by omega) (by omega)
                have k3 := F5.out (t + 1) (by omega) (by omega)
                have k1 := sorted_le hS HLs.out c t hca t1 (by omega)
                have k2 := sorted_le hS HR.out (pp - t) u (by omega) (by omega) hub
                exact lt_of_le_lt hS k2 (lt_of_lt_le hS hlv k1)
              have S2 : ∀ k, Aside (SW enc1 w0 blk off d (wr.drewN k)) := fun k => S1.out.drewN k
              have HS2 := Lib.hid S2
              clear S1 S2 HG hag hlv
              go_wp2_with fail
              go_quiet (first | (go_at_fn g; refine Calls.quiet_of (hc _)))
              go_wp2_with fail
              go_roundg (c - i)
              case measure => omega
              case rel => exact ⟨i, c, rfl, rfl, by omega, by omega, by omega, by omega, HS2.out _, HL, HG2⟩
        · have hltz : ¬ (i : Int) < (j : Int) := by omega
          obtain rfl : i = j := by omega
          obtain ⟨e, he⟩ : ∃ e : Nat, e + i = mid + m := ⟨mid + m - i, by omega⟩
          have we : IntKind.i64.wrap ((mid : Int) + (m : Int) - (i : Int)) = (e : Int) := by rw [IntKind.wrap_i64]; omega
          have ee : (mid : Int) + (m : Int) - (i : Int) = (e : Int) := by omega
          have g0 := F5.out i hmi hjb
          have g1 : a ≤ i := by omega
          have g2 : i ≤ m := by omega
          have g3 : i ≤ mid := by omega
          have g4 : m ≤ e := by omega
          have g5 : mid ≤ e := by omega
          have g6 : e ≤ b := by omega
          have g7 : i + (e - m) = mid := by omega
          have K1 : Hid (a < i → e < b → lt (at' d e) (at' d (i - 1)) = false) := fun x1 x2 => by
            have := (F8.out i hmi hjb).1 x1 (by omega)
            have k := HL.out (i - 1) (by omega) (by omega)
            rw [show pp - (i - 1) = e by omega] at k; exact k
          have K2 : Hid (m < e → i < m → lt (at' d (e - 1)) (at' d i) = true) := fun x1 x2 => by
            have := (F8.out i hmi hjb).2 x2 (by omega)
            have k := HG.out i (by omega) (by omega)
            rw [show pp - i = e - 1 by omega] at k; exact k
          clear HL HG F5 F8 HLO HHI g0 f1 f2 f3 f4 w3 e3 hpp hltz hlt hmi hij hjb hg
          go_upto_region 39 with fail
          obtain ⟨rb, hrb⟩ : ∃ rb : Bool, rb = decide (i < m ∧ m < e) := ⟨_, rfl⟩
          have HRB := Lib.hid hrb
          clear hrb
          go_cut [185] (fun x wx => x = .bool rb ∧ wr = wx)
          case first =>
            as_aux_lemma =>
              by_cases z1 : i < m
              · by_cases z2 : m < e
                · obtain rfl : rb = true := by rw [HRB.out]; exact decide_eq_true ⟨z1, z2⟩
                  have z1' : (i : Int) < (m : Int) := by omega
                  have z2' : (m : Int) < (e : Int) := by omega
                  go_wp2_with fail
                  go_meet
                  exact ⟨by first | rfl | (simp; done) | (simp; omega), rfl⟩
                · obtain rfl : rb = false := by rw [HRB.out]; exact decide_eq_false (fun h => z2 h.2)
                  have z1' : (i : Int) < (m : Int) := by omega
                  have z2' : ¬ (m : Int) < (e : Int) := by omega
                  go_wp2_with fail
                  go_meet
                  exact ⟨by first | rfl | (simp; done) | (simp; omega), rfl⟩
              · obtain rfl : rb = false := by rw [HRB.out]; exact decide_eq_false (fun h => z1 h.1)
                have z1' : ¬ (i : Int) < (m : Int) := by omega
                go_wp2_with fail
                go_meet
                exact ⟨by first | rfl | (simp; done) | (simp; omega), rfl⟩
          case rest =>
            as_aux_lemma =>
              obtain ⟨rfl, rfl⟩ := hcut
              go_upto_if 185 with fail
              go_cut [20] (fun sv wx => sv = .int .i64 i ∧ ∃ d1, Aside (SW enc1 w0 blk off d1 wx) ∧ Hid (RotF i m e (at' d) (at' d1)) ∧ Hid (PermIn a b d d1))
              case first =>
                as_aux_lemma =>
                  cases rb
                  · go_wp2_with fail
                    go_meet
                    refine ⟨rfl, d, S1, (show Hid _ from ?_), permIn_refl _ _ _⟩
                    have q := of_decide_eq_false HRB.out.symm
                    by_cases z1 : i < m
                    · obtain rfl : m = e := by omega
                      exact RotF.none_right _ _ _
                    · obtain rfl : i = m := by omega
                      exact RotF.none_left _ _ _
                  · obtain ⟨z1, z2⟩ := of_decide_eq_true HRB.out.symm
                    go_wp2_with fail
                    refine (rotate_any n blk off cap i m e N _ d0 d w0 _ R hN hs S1.out z1 z2 (by omega) hsz).mono ?_
                    rintro _ w' ⟨rfl, d1, S2, F2, P2⟩
                    have S3 : Aside _ := S2
                    have HF2 : Hid _ := F2
                    have HP2 : Hid (PermIn a b d d1) := permIn_mono _ _ _ _ _ _ (by omega) (by omega) (by omega) P2
                    clear S2 F2 P2
                    go_wp2_with fail
                    go_meet
                    exact ⟨rfl, d1, S3, HF2, HP2⟩
              case rest =>
                as_aux_lemma =>
                  obtain ⟨rfl, d1, S2, HF1, HP1⟩ := hcut
                  clear S1 HRB
                  have hs1 : d1.size = N := by rw [HP1.out.1]; exact hs
                  have RS := Lib.hid (rot_sorted g1 g2 g4 g6 g7 HLs.out HR.out HF1.out)
                  have RA := Lib.hid (rot_agr g1 g2 g4 g6 g7 HA.out HF1.out)
                  have RX := Lib.hid (sym_cross hS g1 g2 g4 g6 g7 HLs.out HR.out K1.out K2.out HF1.out)
                  clear K1 K2 HF1
                  go_upto_region 41 with fail
                  obtain ⟨lb, hlb⟩ : ∃ lb : Bool, lb = decide (a < i ∧ i < mid) := ⟨_, rfl⟩
                  have HLB := Lib.hid hlb
                  clear hlb
                  go_cut [199] (fun x wx => x = .bool lb ∧ wc = wx)
                  case first =>
                    as_aux_lemma =>
                      by_cases z1 : a < i
                      · by_cases z2 : i < mid
                        · obtain rfl : lb = true := by rw [HLB.out]; exact decide_eq_true ⟨z1, z2⟩
                          have z1' : (a : Int) < (i : Int) := by omega
                          have z2' : (i : Int) < (mid : Int) := by omega
                          go_wp2_with fail
                          go_meet
                          exact ⟨by first | rfl | (simp; done) | (simp; omega), rfl⟩
                        · obtain rfl : lb = false := by rw [HLB.out]; exact decide_eq_false (fun h => z2 h.2)
                          have z1' : (a : Int) < (i : Int) := by omega
                          have z2' : ¬ (i : Int) < (mid : Int) := by omega
                          go_wp2_with fail
                          go_meet
                          exact ⟨by first | rfl | (simp; done) | (simp; omega), rfl⟩
                      · obtain rfl : lb = false := by rw [HLB.out]; exact decide_eq_false (fun h => z1 h.1)
                        have z1' : ¬ (a : Int) < (i : Int) := by omega
                        go_wp2_with fail
                        go_meet
                        exact ⟨by first | rfl | (simp; done) | (simp; omega), rfl⟩
                  case rest =>
                    as_aux_lemma =>
                      obtain ⟨rfl, rfl⟩ := hcut
                      go_upto_if 199 with fail
                      go_cut [20] (fun sv wx => sv = .int .i64 i ∧ ∃ d2, Aside (SW enc1 w0 blk off d2 wx) ∧ Hid (PermIn a mid d1 d2) ∧ Hid (SortedIn lt a mid d2))
                      case first =>
                        as_aux_lemma =>
                          cases lb
                          · go_wp2_with fail
                            go_meet
                            refine ⟨rfl, d1, S2, permIn_refl _ _ _, (show Hid _ from ?_)⟩
                            have q := of_decide_eq_false HLB.out.symm
                            by_cases z1 : a < i
                            · obtain rfl : i = mid := by omega
                              exact RS.out.1
                            · obtain rfl : a = i := by omega
                              exact RS.out.2.1
                          · obtain ⟨z1, z2⟩ := of_decide_eq_true HLB.out.symm
                            go_wp2_with fail
                            refine (IH.out a i mid d1 _ (by omega) hs1 S2.out z1 z2 (by omega) RS.out.1 RS.out.2.1 RA.out.1).mono ?_
                            rintro _ w' ⟨rfl, d2, T2, P2, O2⟩
                            have S3 : Aside _ := T2
                            have HP2 : Hid _ := P2
                            have HO2 : Hid _ := O2
                            clear T2 P2 O2
                            go_wp2_with fail
                            go_meet
                            exact ⟨rfl, d2, S3, HP2, HO2⟩
                      case rest =>
                        as_aux_lemma =>
                          obtain ⟨rfl, d2, S3, HP2, HO2⟩ := hcut
                          clear S2 HLB
                          have hs2 : d2.size = N := by rw [HP2.out.1]; exact hs1
                          have RS2 := Lib.hid (And.intro (sorted_other HP2.out (.inr (Nat.le_refl _)) RS.out.2.2.1) (sorted_other HP2.out (.inr g5) RS.out.2.2.2))
                          have RA2 := Lib.hid (agr_other HP2.out (.inr (Nat.le_refl _)) RA.out.2)
                          have FIN : Hid (∀ d3, PermIn mid b d2 d3 → SortedIn lt mid b d3 → PermIn a b d d3 ∧ SortedIn lt a b d3) := fun d3 p3 o3 => by
                            have j := sym_join (by omega) (by omega) (by omega) RX.out HP2.out HO2.out p3 o3
                            exact ⟨permIn_trans _ _ _ _ _ HP1.out j.2, j.1⟩
                          clear RS RA RX HP1 HP2 HO2
                          go_upto_region 43 with fail
                          by_cases z1 : mid < e
                          · by_cases z2 : e < b
                            · have z1' : (mid : Int) < (e : Int) := by omega
                              have z2' : (e : Int) < (b : Int) := by omega
                              go_wp2_with fail
                              refine (IH.out mid e b d2 _ (by omega) hs2 S3.out z1 z2 (by omega) RS2.out.1 RS2.out.2 RA2.out).mono ?_
                              rintro _ w' ⟨rfl, d3, T3, P3, O3⟩
                              have HF3 := Lib.hid (FIN.out d3 P3 O3)
                              have S4 : Aside _ := T3
                              clear T3 P3 O3 FIN
                              go_wp2_with fail
                              go_end0
                              exact ⟨rfl, d3, S4.out, HF3.out.1, HF3.out.2⟩
                            · have z1' : (mid : Int) < (e : Int) := by omega
                              have z2' : ¬ (e : Int) < (b : Int) := by omega
                              obtain rfl : e = b := by omega
                              have HF3 := Lib.hid (FIN.out d2 (permIn_refl _ _ _) RS2.out.1)
                              go_wp2_with fail
                              go_end0
                              exact ⟨rfl, d2, S3.out, HF3.out.1, HF3.out.2⟩
                          · have z1' : ¬ (mid : Int) < (e : Int) := by omega
                            obtain rfl : mid = e := by omega
                            have HF3 := Lib.hid (FIN.out d2 (permIn_refl _ _ _) RS2.out.2)
                            go_wp2_with fail
                            go_end0
                            exact ⟨rfl, d2, S3.out, HF3.out.1, HF3.out.2⟩
end Go.Proofs.Ytmmgejgmlhhfdaa
