/-
  The library's stable sort of a row of places: what slices.swapRangeCmpFunc and slices.rotateCmpFunc do to the row.
-/
import Derived.Test.YtmmgejgmlhhfdaaBase
import Derived.Test.YtmmgejgmlhhfdaaSymMath
import Derived.Shelf.SlSortCmp.Kit1
import Derived.BigRegion
import Derived.BigGuard
import Derived.Deep.LoopGhost
import Derived.Lib.Hide
namespace Go.Proofs.Ytmmgejgmlhhfdaa
open Go.RowKit Go.Sort Go.Lib PSym

/-- The places below n + 1, as ints. -/
def enc1 {n : Nat} (x : Fin (n + 1)) : Value := .int .i64 ((x.val : Nat) : Int)
theorem enc1_one (n : Nat) : OneCell (enc1 (n := n)) := fun _ => rfl

section
variable {n blk off : Nat} {w0 W : World} {d0 dk : Array (Fin (n + 1))}

theorem sw_cell (h : SW enc1 w0 blk off dk W) (R : Row1 enc1 w0 blk off d0) (hs : dk.size = d0.size) (i : Nat) (hi : i < dk.size) : W.cell? ⟨blk, off + i, none⟩ = some (.int .i64 ((at' dk i).val : Int)) := h.c1 R hs i hi
theorem sw_free (h : SW enc1 w0 blk off dk W) (R : Row1 enc1 w0 blk off d0) (hs : dk.size = d0.size) (i : Nat) (hi : i < dk.size) : W.frozen? ⟨blk, off + i, none⟩ = false := h.f1 R hs i hi
theorem sw_swap (h : SW enc1 w0 blk off dk W) (R : Row1 enc1 w0 blk off d0) (i j : Nat) (hi : i < dk.size) (hj : j < dk.size) :
    SW enc1 w0 blk off (swp dk i j) ((W.setCell ⟨blk, off + i, none⟩ (.int .i64 ((at' dk j).val : Int))).setCell ⟨blk, off + j, none⟩ (.int .i64 ((at' dk i).val : Int))).drew := h.swapped R i j hi hj
end

set_option maxHeartbeats 4000000 in
set_option maxRecDepth 100000 in
theorem swapRange_any (n blk off cap a b k N : Nat) (fv : Value) (d0 d : Array (Fin (n + 1))) (w0 w : World) (R : Row1 enc1 w0 blk off d0) (hN : d0.size = N) (hs : d.size = N) (S : SW enc1 w0 blk off d w) (hab : a + k ≤ b) (hb : b + k ≤ N) (hsz : N ≤ 1000) :
    Calls Try.prog 87 #[.slice (some ⟨blk, off, none⟩) N cap, .int .i64 a, .int .i64 b, .int .i64 k, fv] w fun e w' =>
      e = .returned (.tuple #[]) ∧ ∃ d', SW enc1 w0 blk off d' w' ∧ SwpF a b k (at' d) (at' d') ∧ PermIn a (b + k) d d' := by
  have S0 : Aside (SW enc1 w0 blk off d w) := S
  clear S
  go_enter Try.func87, Try.ntmps87
  go_wp2
  go_loopg [10] k (fun g vi wr => ∃ (i : Nat) (dk : Array (Fin (n + 1))), vi = .int .i64 i ∧ i + g = k ∧ dk.size = N ∧ Aside (SW enc1 w0 blk off dk wr) ∧ Hid (SwpF a b i (at' d) (at' dk)) ∧ Hid (PermIn a (b + k) d dk))
  case atStart => exact ⟨0, d, rfl, by omega, hs, S0, SwpF.none _ _ _, permIn_refl _ _ _⟩
  case round =>
    clear S0
    obtain ⟨i, dk, rfl, hg, hsk, S1, HF, HP⟩ := hrel
    by_cases hlt : i < k
    · have hltz : (i : Int) < (k : Int) := by omega
      obtain ⟨p, hp⟩ : ∃ p, p = a + i := ⟨_, rfl⟩
      obtain ⟨q, hq⟩ : ∃ q, q = b + i := ⟨_, rfl⟩
      obtain ⟨x, hx⟩ : ∃ x : Int, x = ((at' dk p).val : Int) := ⟨_, rfl⟩
      obtain ⟨y, hy⟩ : ∃ x : Int, x = ((at' dk q).val : Int) := ⟨_, rfl⟩
      have S3 : Aside (SW enc1 w0 blk off (swp dk p q) ((wr.setCell ⟨blk, off + p, none⟩ (.int .i64 y)).setCell ⟨blk, off + q, none⟩ (.int .i64 x)).drew) := by rw [hx, hy]; exact sw_swap S1.out R p q (by omega) (by omega)
      have c1 := sw_cell S1.out R (by omega) p (by omega)
      have c2 := sw_cell S1.out R (by omega) q (by omega)
      have f1 := sw_free S1.out R (by omega) p (by omega)
      have f2 := sw_free S1.out R (by omega) q (by omega)
      rw [← hx] at c1
      rw [← hy] at c2
      have e1 : (a : Int) + (i : Int) = (p : Int) := by omega
      have e2 : (b : Int) + (i : Int) = (q : Int) := by omega
      have b1 : (p : Int) < (N : Int) := by omega
      have b2 : (q : Int) < (N : Int) := by omega
      have w1 : IntKind.i64.wrap ((a : Int) + (i : Int)) = (p : Int) := by rw [IntKind.wrap_i64]; omega
      have w2 : IntKind.i64.wrap ((b : Int) + (i : Int)) = (q : Int) := by rw [IntKind.wrap_i64]; omega
      have hpq : off + p ≠ off + q := by omega
      have HF' : Hid (SwpF a b (i + 1) (at' d) (at' (swp dk p q))) := by rw [hp, hq]; exact swp_next (by omega) (by omega) HF.out
      have HP' : Hid (PermIn a (b + k) d (swp dk p q)) := permIn_trans _ _ _ _ _ HP.out (swp_permIn dk a (b + k) p q (by omega) (by omega) (by omega) (by omega) (by omega))
      have hsk' : (swp dk p q).size = N := by rw [size_swp]; exact hsk
      clear hx hy S1 HF HP
      have P1 := Lib.hid hp; have P2 := Lib.hid hq
      clear hp hq e1 e2
      go_wp2_with fail
      go_region
      all_goals go_wp2
      go_roundg (k - (i + 1))
      case measure => omega
      case rel => exact ⟨i + 1, swp dk p q, by go_num, by omega, hsk', S3, HF', HP'⟩
    · have hltz : ¬ (i : Int) < (k : Int) := by omega
      obtain rfl : i = k := by omega
      go_wp2
      go_end0
      exact ⟨rfl, dk, S1.out, HF.out, HP.out⟩

set_option maxHeartbeats 4000000 in
set_option maxRecDepth 100000 in
theorem rotate_any (n blk off cap a m b N : Nat) (fv : Value) (d0 d : Array (Fin (n + 1))) (w0 w : World) (R : Row1 enc1 w0 blk off d0) (hN : d0.size = N) (hs : d.size = N) (S : SW enc1 w0 blk off d w) (ham : a < m) (hmb : m < b) (hb : b ≤ N) (hsz : N ≤ 1000) :
    Calls Try.prog 86 #[.slice (some ⟨blk, off, none⟩) N cap, .int .i64 a, .int .i64 m, .int .i64 b, fv] w fun e w' =>
      e = .returned (.tuple #[]) ∧ ∃ d', SW enc1 w0 blk off d' w' ∧ RotF a m b (at' d) (at' d') ∧ PermIn a b d d' := by
  have S0 : Aside (SW enc1 w0 blk off d w) := S
  clear S
  have v1 : (m : Int) - (a : Int) = ((m - a : Nat) : Int) := by omega
  have v2 : (b : Int) - (m : Int) = ((b - m : Nat) : Int) := by omega
  have wr1 : IntKind.i64.wrap ((m : Int) - (a : Int)) = ((m - a : Nat) : Int) := by rw [IntKind.wrap_i64]; omega
  have wr2 : IntKind.i64.wrap ((b : Int) - (m : Int)) = ((b - m : Nat) : Int) := by rw [IntKind.wrap_i64]; omega
  generalize hia : m - a = ia at v1 v2 wr1 wr2
  generalize hjb : b - m = jb at v1 v2 wr1 wr2
  go_enter Try.func86, Try.ntmps86
  go_wp2_with fail
  go_loopg [10, 11] (ia + jb) (fun g vi vj wr => ∃ (i j : Nat) (dk : Array (Fin (n + 1))), vi = .int .i64 i ∧ vj = .int .i64 j ∧ 0 < i ∧ 0 < j ∧ i + a ≤ m ∧ m + j ≤ b ∧ i + j ≤ g ∧ dk.size = N ∧ Aside (SW enc1 w0 blk off dk wr) ∧ Hid (∀ f, RotF (m - i) m (m + j) (at' dk) f → RotF a m b (at' d) f) ∧ Hid (PermIn a b d dk))
  case atStart => exact ⟨ia, jb, d, rfl, rfl, by omega, by omega, by omega, by omega, by omega, hs, S0, (show Hid _ from fun f h => by rw [show m - ia = a by omega, show m + jb = b by omega] at h; exact h), permIn_refl _ _ _⟩
  case round =>
    clear S0 v1 v2 wr1 wr2
    obtain ⟨i, j, dk, rfl, rfl, hi0, hj0, hia', hjb', hg, hsk, S1, HF, HP⟩ := hrel
    obtain ⟨p, hp⟩ : ∃ p, p + i = m := ⟨m - i, by omega⟩
    have e1 : (m : Int) - (i : Int) = (p : Int) := by omega
    have w1 : IntKind.i64.wrap ((m : Int) - (i : Int)) = (p : Int) := by rw [IntKind.wrap_i64]; omega
    by_cases hij : i = j
    · subst hij
      go_wp2_with fail
      refine (swapRange_any n blk off cap p m i N fv d0 dk w0 _ R hN hsk S1.out (by omega) (by omega) hsz).mono ?_
      rintro e w' ⟨rfl, d', S2, F2, P2⟩
      go_wp2_with fail
      go_end0
      exact ⟨rfl, d', S2, HF.out _ (by rw [show m - i = p by omega]; exact rot_eq (by omega) (by omega) (by omega) (by rw [show m - p = i by omega]; exact F2)), permIn_trans _ _ _ _ _ HP.out (permIn_mono _ _ _ _ _ _ (by omega) (by omega) (by omega) P2)⟩
    · have hb0 : ((i : Int) != (j : Int)) = true := by rw [bne_iff_ne]; omega
      by_cases hgt : j < i
      · have hgz : (j : Int) < (i : Int) := by omega
        obtain ⟨q, hq⟩ : ∃ q, q + j = i := ⟨i - j, by omega⟩
        have e2 : (i : Int) - (j : Int) = (q : Int) := by omega
        have w2 : IntKind.i64.wrap ((i : Int) - (j : Int)) = (q : Int) := by rw [IntKind.wrap_i64]; omega
        go_wp2_with fail
        refine (swapRange_any n blk off cap p m j N fv d0 dk w0 _ R hN hsk S1.out (by omega) (by omega) hsz).mono ?_
        rintro e w' ⟨rfl, d', S2, F2, P2⟩
        have S3 : Aside _ := S2
        have HF2 : Hid (∀ f, RotF (m - q) m (m + j) (at' d') f → RotF a m b (at' d) f) := fun f h => HF.out f (by
          rw [show m - i = p by omega]
          exact rot_gt (by omega) (by omega) (by omega) (by rw [show m + j - m = j by omega]; exact F2) (by rw [show p + (m + j - m) = m - q by omega]; exact h))
        have HP2 : Hid (PermIn a b d d') := permIn_trans _ _ _ _ _ HP.out (permIn_mono _ _ _ _ _ _ (by omega) (by omega) (by omega) P2)
        have hs' : d'.size = N := by rw [P2.1]; exact hsk
        clear S2 F2 P2 HF HP S1
        go_wp2_with fail
        go_roundg (q + j)
        case measure => omega
        case rel => exact ⟨q, j, d', by go_num, rfl, by omega, by omega, by omega, by omega, by omega, hs', S3, HF2, HP2⟩
      · have hgz : ¬ (j : Int) < (i : Int) := by omega
        obtain ⟨q, hq⟩ : ∃ q, q + i = j := ⟨j - i, by omega⟩
        have e2 : (j : Int) - (i : Int) = (q : Int) := by omega
        have w2 : IntKind.i64.wrap ((j : Int) - (i : Int)) = (q : Int) := by rw [IntKind.wrap_i64]; omega
        obtain ⟨t, ht⟩ : ∃ t, t + i = m + j := ⟨m + j - i, by omega⟩
        have e3 : (m : Int) + (j : Int) - (i : Int) = (t : Int) := by omega
        have w3 : IntKind.i64.wrap ((m : Int) + (j : Int) - (i : Int)) = (t : Int) := by rw [IntKind.wrap_i64]; omega
        go_wp2_with fail
        refine (swapRange_any n blk off cap p t i N fv d0 dk w0 _ R hN hsk S1.out (by omega) (by omega) hsz).mono ?_
        rintro e w' ⟨rfl, d', S2, F2, P2⟩
        have S3 : Aside _ := S2
        have HF2 : Hid (∀ f, RotF (m - i) m (m + q) (at' d') f → RotF a m b (at' d) f) := fun f h => HF.out f (by
          rw [show m - i = p by omega] at h ⊢
          exact rot_lt (by omega) (by omega) (by omega) (by rw [show m - p = i by omega, show m + j - i = t by omega]; exact F2) (by rw [show m + j - (m - p) = m + q by omega]; exact h))
        have HP2 : Hid (PermIn a b d d') := permIn_trans _ _ _ _ _ HP.out (permIn_mono _ _ _ _ _ _ (by omega) (by omega) (by omega) P2)
        have hs' : d'.size = N := by rw [P2.1]; exact hsk
        clear S2 F2 P2 HF HP S1
        go_wp2_with fail
        go_roundg (i + q)
        case measure => omega
        case rel => exact ⟨i, q, d', rfl, by go_num, by omega, by omega, by omega, by omega, by omega, hs', S3, HF2, HP2⟩
end Go.Proofs.Ytmmgejgmlhhfdaa
