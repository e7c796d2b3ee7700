/-
  slices.symMergeCmpFunc of one element behind a sorted range.
-/
import Derived.Test.YtmmgejgmlhhfdaaSymLeft
namespace Go.Proofs.Ytmmgejgmlhhfdaa
open Go.RowKit Go.Sort Go.Lib PSym

set_option maxHeartbeats 4000000 in
set_option maxRecDepth 100000 in
theorem symRight_any (n blk off cap a m b N : Nat) (g : Nat) (cb : Array Value) (cf : Fin (n + 1) → Fin (n + 1) → Int) (lt : Fin (n + 1) → Fin (n + 1) → Bool) (hS : SWO lt) (eg : ∀ args w, (callFunc g args).run Try.prog w = .ok (.enter g args) w)
    (d0 d : Array (Fin (n + 1))) (w0 w : World) (hC : CmpReads Try.prog g cb enc1 cf blk off N w0) (R : Row1 enc1 w0 blk off d0) (hN : d0.size = N) (hs : d.size = N) (S : SW enc1 w0 blk off d w)
    (ham : a + 1 < m) (hm : m + 1 = b) (hb : b ≤ N) (hsz : N ≤ 1000) (hr : SortedIn lt a m d) (hA : Agr (ltOf cf) lt a m b d) :
    Calls Try.prog 84 #[.slice (some ⟨blk, off, none⟩) N cap, .int .i64 a, .int .i64 m, .int .i64 b, .func (.func g) #[] cb] w fun e w' =>
      e = .returned (.tuple #[]) ∧ ∃ d', SW enc1 w0 blk off d' w' ∧ PermIn a b d d' ∧ SortedIn lt a b d' := by
  have S0 : Aside (SW enc1 w0 blk off d w) := S
  have HC : Aside _ := hC
  have HA : Aside _ := hA
  have HR : Aside _ := hr
  clear S hC hA hr
  have w1 : IntKind.i64.wrap ((m : Int) - (a : Int)) = (m : Int) - (a : Int) := by rw [IntKind.wrap_i64]; omega
  have e1 : (((m : Int) - (a : Int)) == 1) = false := by rw [beq_eq_false_iff_ne]; omega
  have e1' : ¬ ((m : Int) - (a : Int)) = 1 := by omega
  have w2 : IntKind.i64.wrap ((b : Int) - (m : Int)) = 1 := by rw [IntKind.wrap_i64]; omega
  have e2 : (b : Int) - (m : Int) = 1 := by omega
  go_enter Try.func84, Try.ntmps84
  go_wp2_with fail
  go_loopg [14, 15] (m - a) (fun gg vi vj wr => ∃ (i j : Nat), vi = .int .i64 i ∧ vj = .int .i64 j ∧ a ≤ i ∧ i ≤ j ∧ j ≤ m ∧ j - i ≤ gg ∧ Aside (SW enc1 w0 blk off d wr) ∧ Hid (∀ h, a ≤ h → h < i → lt (at' d m) (at' d h) = false) ∧ Hid (∀ h, j ≤ h → h < m → lt (at' d m) (at' d h) = true))
  case atStart => exact ⟨a, m, rfl, rfl, by omega, by omega, by omega, by omega, S0, (show Hid _ from fun h h1 h2 => by omega), (show Hid _ from fun h h1 h2 => by omega)⟩
  case round =>
    clear S0
    obtain ⟨i, j, rfl, rfl, hmi, hij, hjb, hg, S1, HL, HG⟩ := hrel
    by_cases hlt : i < j
    · have hltz : (i : Int) < (j : Int) := by omega
      obtain ⟨h, hh⟩ : ∃ h : Nat, ((i : Int) + (j : Int)) / 2 = (h : Int) := ⟨(i + j) / 2, by omega⟩
      have h1 : i ≤ h := by omega
      have h2 : h < j := by omega
      obtain ⟨x, hx⟩ : ∃ x : Int, x = ((at' d m).val : Int) := ⟨_, rfl⟩
      obtain ⟨y, hy⟩ : ∃ x : Int, x = ((at' d h).val : Int) := ⟨_, rfl⟩
      have c1 := sw_cell S1.out R (by omega) m (by omega)
      have c2 := sw_cell S1.out R (by omega) h (by omega)
      have hc := sw_cmp S1.out HC.out hs m h
      rw [← hx] at c1 hc
      rw [← hy] at c2 hc
      have b1 : (h : Int) < (N : Int) := by omega
      have b2 : (m : Int) < (N : Int) := by omega
      obtain ⟨z, hz⟩ : ∃ z : Int, z = cf (at' d m) (at' d h) := ⟨_, rfl⟩
      rw [← hz] at hc
      have hag : decide (z < 0) = lt (at' d m) (at' d h) := by rw [hz]; exact HA.out h m (by omega) (by omega) (by omega) (by omega)
      clear hx hy hz
      cases hlv : lt (at' d m) (at' d h) with
      | false =>
        have hzn : ¬ z < 0 := of_decide_eq_false (hag.trans hlv)
        have hnd : (!decide (z < 0)) = true := by rw [decide_eq_false hzn]; rfl
        have HL2 : Hid (∀ t, a ≤ t → t < h + 1 → lt (at' d m) (at' d t) = false) := fun t t1 t2 =>
          hS.ntrans _ _ _ hlv (sorted_le hS HR.out t h t1 (by omega) (by omega))
        have S2 : ∀ k, Aside (SW enc1 w0 blk off d (wr.drewN k)) := fun k => S1.out.drewN k
        have HS2 := Lib.hid S2
        clear S1 S2 HL hag hlv
        go_wp2_with fail
        go_quiet (first | (go_at_fn g; refine Calls.quiet_of (hc _)))
        go_wp2_with fail
        go_roundg (j - (h + 1))
        case measure => omega
        case rel => exact ⟨h + 1, j, by go_num, rfl, by omega, by omega, by omega, by omega, HS2.out _, HL2, HG⟩
      | true =>
        have hzn : z < 0 := of_decide_eq_true (hag.trans hlv)
        have HG2 : Hid (∀ t, h ≤ t → t < m → lt (at' d m) (at' d t) = true) := fun t t1 t2 => lt_of_lt_le hS hlv (sorted_le hS HR.out h t (by omega) (by omega) t2)
        have S2 : ∀ k, Aside (SW enc1 w0 blk off d (wr.drewN k)) := fun k => S1.out.drewN k
        have HS2 := Lib.hid S2
        clear S1 S2 HG hag hlv
        go_wp2_with fail
        go_quiet (first | (go_at_fn g; refine Calls.quiet_of (hc _)))
        go_wp2_with fail
        go_roundg (h - i)
        case measure => omega
        case rel => exact ⟨i, h, rfl, rfl, by omega, by omega, by omega, by omega, HS2.out _, HL, HG2⟩
    · have hltz : ¬ (i : Int) < (j : Int) := by omega
      obtain rfl : i = j := by omega
      go_wp2_with fail
      go_loopg [17] (m - i) (fun gg vk wr2 => ∃ (k : Nat) (dk : Array (Fin (n + 1))), vk = .int .i64 k ∧ i ≤ k ∧ k ≤ m ∧ k - i ≤ gg ∧ dk.size = N ∧ Aside (SW enc1 w0 blk off dk wr2) ∧ Hid (RotF k m (m + 1) (at' d) (at' dk)) ∧ Hid (PermIn a b d dk))
      case atStart => exact ⟨m, d, rfl, by omega, by omega, by omega, hs, S1, (show Hid _ from RotF.none_left _ _ _), permIn_refl _ _ _⟩
      case round =>
        clear S1
        obtain ⟨k, dk, rfl, hak, hki, hg2, hsk, S1, HF, HP⟩ := hrel
        by_cases hk : i < k
        · have hkz : (i : Int) < (k : Int) := by omega
          obtain ⟨x, hx⟩ : ∃ x : Int, x = ((at' dk k).val : Int) := ⟨_, rfl⟩
          obtain ⟨q, hq⟩ : ∃ q : Nat, q = k - 1 := ⟨_, rfl⟩
          obtain ⟨y, hy⟩ : ∃ x : Int, x = ((at' dk q).val : Int) := ⟨_, rfl⟩
          have S3 : Aside (SW enc1 w0 blk off (swp dk k q) ((wr.setCell ⟨blk, off + k, none⟩ (.int .i64 y)).setCell ⟨blk, off + q, none⟩ (.int .i64 x)).drew) := by rw [hx, hy]; exact sw_swap S1.out R k q (by omega) (by omega)
          have c1 := sw_cell S1.out R (by omega) k (by omega)
          have c2 := sw_cell S1.out R (by omega) q (by omega)
          have f1 := sw_free S1.out R (by omega) k (by omega)
          have f2 := sw_free S1.out R (by omega) q (by omega)
          rw [← hx] at c1
          rw [← hy] at c2
          have e3 : (k : Int) - 1 = (q : Int) := by omega
          have w3 : IntKind.i64.wrap ((k : Int) - 1) = (q : Int) := by rw [IntKind.wrap_i64]; omega
          have b1 : (k : Int) < (N : Int) := by omega
          have b2 : (q : Int) < (N : Int) := by omega
          have hpq : off + k ≠ off + q := by omega
          have HF' : Hid (RotF q m (m + 1) (at' d) (at' (swp dk k q))) := by rw [hq]; exact shift_down (by omega) (by omega) (by omega) HF.out
          have HP' : Hid (PermIn a b d (swp dk k q)) := permIn_trans _ _ _ _ _ HP.out (swp_permIn dk a b k q (by omega) (by omega) (by omega) (by omega) (by omega))
          have hsk' : (swp dk k q).size = N := by rw [size_swp]; exact hsk
          have hq1 : q < k := by omega
          have hq2 : i ≤ q := by omega
          clear hx hy S1 HF HP hq
          go_wp2_with fail
          go_region
          all_goals go_wp2
          go_roundg (q - i)
          case measure => omega
          case rel => exact ⟨q, swp dk k q, by go_num, by omega, by omega, by omega, hsk', S3, HF', HP'⟩
        · have hkz : ¬ (i : Int) < (k : Int) := by omega
          obtain rfl : i = k := by omega
          go_wp2_with fail
          refine bodyPost_ret (results_none rfl _ _ _) rfl ?_
          exact ⟨rfl, dk, S1.out, HP.out, by rw [← hm]; exact one_right hS (by omega) (by omega) HR.out HL.out HG.out HF.out⟩
end Go.Proofs.Ytmmgejgmlhhfdaa
