/-
  What fault, end and Parts of package brackets answer, over any table.
-/
import Derived.Test.YtpfpcnfodjmgcaaBrRight
import Derived.Test.YtpfpcnfodjmgcaaMoneyRight
import Derived.Test.YtpfpcnfodjmgcaaRef05Part
import Derived.StillTailTactics
namespace Go.Proofs.Ytpfpcnfodjmgcaa
open Go.RowKit

theorem fault_any {A : Option Addr} {n cap : Nat} {a r : Nat → Int} {w : World} {bb : Bool} {x : Int} (hA : SlP w A n a r) (hb : bb = true ↔ PBr.Rt a r n) (h0 : -9223372036854775808 ≤ x) :
    Calls Try.prog 36 #[.slice A n cap, .int .i64 x] w fun e w' => e = .returned (.int .i64 (PBr.errB bb x)) ∧ Below w.heap.size w w' := by
  have HC := Lib.hid (bright_any (cap := cap) hA hb)
  clear hA hb
  go_enter Try.func36, Try.ntmps36
  go_wp2_with fail
  refine HC.out.mono ?_
  rintro _ w1 ⟨rfl, b1⟩
  have B1 := Lib.hid b1
  clear b1 HC
  cases bb with
  | false =>
    go_wp2_with fail
    go_ret
    exact ⟨rfl, B1.out⟩
  | true =>
    by_cases hx : x = -9223372036854775808
    · subst hx
      go_wp2_with (go_at_call 46; refine (right_no _ _ (by omega)).mono ?_; rintro _ _ ⟨rfl, rfl⟩)
      go_ret
      exact ⟨rfl, B1.out⟩
    · have hx1 : -9223372036854775807 ≤ x := by omega
      go_wp2_with (go_at_call 46; refine (right_yes _ _ hx1).mono ?_; rintro _ _ ⟨rfl, rfl⟩)
      go_ret
      exact ⟨by rw [PBr.errB_ok hx1]; rfl, B1.out⟩

theorem end_next {b off n cap i : Nat} {u : Int} {w : World} (hi : i + 1 < n) (hn : n ≤ 12) (hc : w.cell? ⟨b, off + (i + 1) * 2, none⟩ = some (.int .i64 u)) :
    Calls Try.prog 37 #[.slice (some ⟨b, off, none⟩) n cap, .int .i64 i] w fun e w' => e = .returned (.int .i64 u) ∧ w' = w := by
  obtain ⟨j, hj⟩ : ∃ j, j = i + 1 := ⟨_, rfl⟩
  rw [← hj] at hc
  have e1 : (i : Int) + 1 = (j : Int) := by omega
  have e2 : IntKind.i64.wrap ((i : Int) + 1) = (j : Int) := by rw [IntKind.wrap_i64]; omega
  have j1 : (0 : Int) ≤ (j : Int) := by omega
  have j2 : (j : Int) < (n : Int) := by omega
  clear hj hi
  go_enter Try.func37, Try.ntmps37
  go_wp2_with fail
  go_ret
  exact ⟨rfl, rfl⟩
theorem end_last {b off n cap i : Nat} {w : World} (hi : n = i + 1) (hn : n ≤ 12) :
    Calls Try.prog 37 #[.slice (some ⟨b, off, none⟩) n cap, .int .i64 i] w fun e w' => e = .returned (.int .i64 9223372036854775807) ∧ w' = w := by
  have e1 : (i : Int) + 1 = (n : Int) := by omega
  have e2 : IntKind.i64.wrap ((i : Int) + 1) = (n : Int) := by rw [IntKind.wrap_i64]; omega
  clear hi
  go_enter Try.func37, Try.ntmps37
  go_wp2_with fail
  go_ret
  exact ⟨rfl, rfl⟩

/-- The parts of the rows ahead of k, then noughts. -/
def ptTo (a : Nat → Int) (n k : Nat) (x : Int) (t : Nat) : Int := if t < k then PBr.pt a n t x else 0
theorem ptL_in64 {a r : Nat → Int} {n : Nat} {x : Int} (hR : PBr.Rt a r n) (h0 : -9223372036854775807 ≤ x) (h1 : x ≤ 9223372036854775807) : In64 (PBr.ptL a n x) := by
  intro i hi
  rw [PBr.ptL_len] at hi
  rw [PBr.ptL_get hi]
  have h2 := PBr.pt_nonneg (i := i) (x := x) hR
  by_cases hx : 0 ≤ x
  · have := PBr.pt_le hR hi hx; omega
  · rw [PBr.pt_low hR hi (by omega)]; omega
theorem bparts_no {A : Option Addr} {n cap : Nat} {a r : Nat → Int} {w : World} {bb : Bool} {x : Int} (hA : SlP w A n a r) (hb : bb = true ↔ PBr.Rt a r n) (h0 : -9223372036854775808 ≤ x) (he : PBr.errB bb x ≠ 0) :
    Calls Try.prog 30 #[.slice A n cap, .int .i64 x] w (SplR [] (PBr.errB bb x) w) := by
  have HC := Lib.hid (fault_any (cap := cap) hA hb h0)
  obtain ⟨E, hE⟩ : ∃ E, PBr.errB bb x = E := ⟨_, rfl⟩
  rw [hE] at HC he ⊢
  have e0 : (E != 0) = true := by rw [bne_iff_ne]; exact he
  clear hA hb hE
  go_enter Try.func30, Try.ntmps30
  go_wp2_with fail
  refine HC.out.mono ?_
  rintro _ w1 ⟨rfl, b1⟩
  go_wp2_with fail
  go_ret2
  exact (splR_err w1 E).from b1

set_option maxHeartbeats 3200000 in
set_option maxRecDepth 100000 in
theorem bparts_yes {A : Option Addr} {n cap : Nat} {a r : Nat → Int} {w : World} {x : Int} (hA : SlP w A n a r) (hR : PBr.Rt a r n) (h0 : -9223372036854775807 ≤ x) (h1 : x ≤ 9223372036854775807) :
    Calls Try.prog 30 #[.slice A n cap, .int .i64 x] w (SplR (PBr.ptL a n x) 0 w) := by
  have HF := Lib.hid (fault_any (cap := cap) hA (show true = true ↔ PBr.Rt a r n from ⟨fun _ => hR, fun _ => rfl⟩) (show -9223372036854775808 ≤ x by omega))
  rw [PBr.errB_ok h0] at HF
  obtain ⟨b, off, rfl, hc⟩ := slp_cells hA hR.1.1
  have HA := Lib.hid hA; have HR := Lib.hid hR; have HC := Lib.hid hc
  have hn := hR.1.2.1
  have hn0 := hR.1.1
  have hmk := make_row n (by omega)
  have HIN : Hid (In64 (PBr.ptL a n x)) := Lib.hid (ptL_in64 hR h0 h1)
  clear hc hA hR
  go_enter Try.func30, Try.ntmps30
  go_wp2_with fail
  refine HF.out.mono ?_
  rintro _ w1 ⟨rfl, b1⟩
  have B1 := Lib.hid b1
  clear b1 HF
  go_wp2_with fail
  go_loopw [21] (fun i wr => ∃ (k : Nat) (l : List Int), k ≤ n ∧ i = .int .i64 k ∧ Hid (∀ t, t < n → l.getD t 0 = ptTo a n k x t) ∧ Hid (Rw wr w1.heap.size n l) ∧ Hid (Below w.heap.size w wr)) (fun i _ => n - (intOf i).toNat)
  case atStart => exact ⟨0, _, Nat.zero_le _, rfl, (show Hid _ from fun t ht => by simp [ptTo, List.getD, ht]), (show Hid _ from Rw.of_row (made_row w1 _ n rfl (by omega)) List.length_replicate), (show Hid _ from B1.out.alloc B1.out.size _)⟩
  case round =>
    obtain ⟨k, l, hk, rfl, HL, HW, HB⟩ := hrel
    clear hmk
    have hH := B1.out.size
    have hHr : w1.heap.size < wr.heap.size := World.block_lt_of_cell? wr _ (HW.out.2 0 hn0).1
    by_cases hlt : k < n
    · have c1 := (HB.out.cell (World.block_lt_of_cell? w _ (HC.out k hlt).1)).trans (HC.out k hlt).1
      have c2 := (HB.out.cell (World.block_lt_of_cell? w _ (HC.out k hlt).2)).trans (HC.out k hlt).2
      obtain ⟨u, hu⟩ : ∃ u, a k = u := ⟨_, rfl⟩
      obtain ⟨y, hy⟩ : ∃ u, r k = u := ⟨_, rfl⟩
      rw [hu] at c1; rw [hy] at c2
      have u0 : 0 ≤ u := by rw [← hu]; exact HR.out.nonneg hlt
      have i1 : (0 : Int) ≤ (k : Int) := by omega
      have i2 : (k : Int) < (n : Int) := by omega
      by_cases hxu : x ≤ u
      · have HL2 : Hid (∀ t, t < n → l.getD t 0 = (PBr.ptL a n x).getD t 0) := Lib.hid (fun t ht => by
          rw [HL.out t ht, PBr.ptL_get ht]
          unfold ptTo
          by_cases htk : t < k
          · rw [if_pos htk]
          · rw [if_neg htk]
            have : u ≤ a t := by
              by_cases e : t = k
              · subst e; omega
              · have := HR.out.up (show k < t by omega) ht; omega
            unfold PBr.pt; rw [if_pos (by omega)])
        have IN := HIN
        go_wp2_with fail
        go_ret2
        refine ⟨_, _, _, rfl, (fun e => by cases e), Nat.le_refl _, Rw.sl (HW.out.on ((Below.refl _ _).alloc (Nat.le_refl _) _)) (PBr.ptL_len _ _ _) HL2.out IN.out (by omega), HB.out.alloc HB.out.size _⟩
      · have hux : u < x := by omega
        obtain ⟨E, HE, hp, e1⟩ : ∃ E : Int, Hid (∀ w', Below w.heap.size w w' → Calls Try.prog 37 #[.slice (some ⟨b, off, none⟩) n cap, .int .i64 k] w' fun e w'' => e = .returned (.int .i64 E) ∧ w'' = w') ∧ (x ≤ E ∧ PBr.pt a n k x = x - u ∨ E < x ∧ PBr.pt a n k x = E - u) ∧ u ≤ E ∧ E ≤ 9223372036854775807 := by
          by_cases hk1 : k + 1 < n
          · refine ⟨a (k + 1), Lib.hid (fun w' hb' => end_next hk1 hn ((hb'.cell (World.block_lt_of_cell? w _ (HC.out (k + 1) hk1).1)).trans (HC.out (k + 1) hk1).1)), ?_, ?_, ?_⟩
            · unfold PBr.pt
              rw [hu, if_neg hxu]
              by_cases h2 : a (k + 1) < x
              · rw [if_pos ⟨hk1, h2⟩]; exact .inr ⟨h2, rfl⟩
              · rw [if_neg (fun h => h2 h.2)]; exact .inl ⟨by omega, rfl⟩
            · have := HR.out.up (show k < k + 1 by omega) hk1; omega
            · exact (HA.out.1 (k + 1) hk1).1.2
          · refine ⟨9223372036854775807, Lib.hid (fun w' hb' => end_last (by omega) hn), .inl ⟨h1, ?_⟩, ?_, Int.le_refl _⟩
            · unfold PBr.pt
              rw [hu, if_neg hxu, if_neg (fun h => hk1 h.1)]
            · omega
        obtain ⟨p, hP⟩ : ∃ p, PBr.pt a n k x = p := ⟨_, rfl⟩
        rw [hP] at hp
        obtain ⟨w8, hw8⟩ : ∃ w8, w8 = wr.alloc (.cells #[.int .i64 u, .int .i64 y] 54) := ⟨_, rfl⟩
        obtain ⟨w9, hw9⟩ : ∃ w9, w9 = w8.drew := ⟨_, rfl⟩
        have B9 : Hid (Below wr.heap.size wr w9) := Lib.hid (by rw [hw9, hw8]; exact ((Below.refl _ _).alloc (Nat.le_refl _) _).drew)
        have c6 : w9.cell? ⟨wr.heap.size, 0, none⟩ = some (.int .i64 u) := by rw [hw9, hw8]; go_simp
        have c4 := ((HW.out.on B9.out).2 k hlt).1
        have c5 := ((HW.out.on B9.out).2 k hlt).2
        have c7 : Hid (Below w.heap.size w w9) := Lib.hid (below_step HB.out B9.out)
        have c8 := HE.out w9 c7.out
        have HL3 : Hid (∀ t, t < n → (l.set k p).getD t 0 = ptTo a n (k + 1) x t) := Lib.hid (fun t ht => by
          rw [set_get HW.out.1 hlt]
          unfold ptTo
          by_cases e : t = k
          · subst e; rw [if_pos rfl, if_pos (by omega), hP]
          · rw [if_neg e, HL.out t ht]
            unfold ptTo
            by_cases htk : t < k
            · rw [if_pos htk, if_pos (by omega)]
            · rw [if_neg htk, if_neg (by omega)])
        have HW9 := Lib.hid ((HW.out.on B9.out).set hlt p)
        clear hP hu hy
        rcases hp with ⟨hp1, hp2⟩ | ⟨hp1, hp2⟩
        · go_wp2_with fail
          rw [← hw8]
          go_still_tail 11, (by kernel_rfl)
          change wpStill _ _ w8.drew (fun a' => wpList _ _ _ _ a' w8.drew) _ _
          rw [← hw9]
          clear hw9 hw8
          still_call c8
          repeat still_step
          try refine wpStill_nil ?_
          go_wp2_with fail
          exact ⟨⟨k + 1, l.set k p, by omega, by congr 1, HL3, Lib.hid (by rw [← hp2]; exact HW9.out), Lib.hid (c7.out.setCell hH _)⟩, by simp [intOf]; omega⟩
        · go_wp2_with fail
          rw [← hw8]
          go_still_tail 11, (by kernel_rfl)
          change wpStill _ _ w8.drew (fun a' => wpList _ _ _ _ a' w8.drew) _ _
          rw [← hw9]
          clear hw9 hw8
          still_call c8
          repeat still_step
          try refine wpStill_nil ?_
          go_wp2_with fail
          exact ⟨⟨k + 1, l.set k p, by omega, by congr 1, HL3, Lib.hid (by rw [← hp2]; exact HW9.out), Lib.hid (c7.out.setCell hH _)⟩, by simp [intOf]; omega⟩
    · obtain rfl : k = n := by omega
      have HL2 : Hid (∀ t, t < k → l.getD t 0 = (PBr.ptL a k x).getD t 0) := Lib.hid (fun t ht => by
        rw [HL.out t ht, PBr.ptL_get ht]
        unfold ptTo
        rw [if_pos ht])
      have IN := HIN
      go_wp2_with fail
      go_ret2
      exact ⟨_, _, _, rfl, (fun e => by cases e), Nat.le_refl _, Rw.sl HW.out (PBr.ptL_len _ _ _) HL2.out IN.out (by omega), HB.out⟩
theorem errB_zero {bb : Bool} {x : Int} (he : PBr.errB bb x = 0) : bb = true ∧ x ≠ -9223372036854775808 := by
  have hbb : bb = true := by
    cases bb with
    | true => rfl
    | false => cases he
  exact ⟨hbb, fun e => by subst hbb; subst e; cases he⟩
theorem bparts_any {A : Option Addr} {n cap : Nat} {a r : Nat → Int} {w : World} {bb : Bool} {x : Int} (hA : SlP w A n a r) (hb : bb = true ↔ PBr.Rt a r n) (h0 : -9223372036854775808 ≤ x) (h1 : x ≤ 9223372036854775807) :
    Calls Try.prog 30 #[.slice A n cap, .int .i64 x] w (SplR (if PBr.errB bb x = 0 then PBr.ptL a n x else []) (PBr.errB bb x) w) := by
  by_cases he : PBr.errB bb x = 0
  · rw [if_pos he, he]
    obtain ⟨hbb, hx⟩ := errB_zero he
    exact bparts_yes hA (hb.1 hbb) (by omega) h1
  · rw [if_neg he]; exact bparts_no hA hb h0 he
end Go.Proofs.Ytpfpcnfodjmgcaa
