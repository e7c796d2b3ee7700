/-
  GarnishPaid: what is left to claim, of any orders, is what the document says, or that it is refused.
-/
import Derived.Test.YtmmgejgmlhhfdaaLaw15MoreG
namespace Go.Proofs.Ytmmgejgmlhhfdaa
open Go.RowKit

set_option maxHeartbeats 6400000 in
set_option maxRecDepth 100000 in
theorem lgpaid_in {A P : Option Addr} {n ca np cp : Nat} {l : List PGa.Ord} {ps : List Int} {w : World} (h : SlO w A n l) (hA : A = none → ca = 0) (hp : Sl w P np ps) (h40 : n ≤ 40) (h41 : np ≤ 40) :
    Calls Try.prog 4 #[.slice A n ca, .slice P np cp] w fun e w' => e = .returned (.bool true) ∧ Below w.heap.size w w' := by
  have H := Lib.hid h
  have hl := Lib.hid h.len
  have HP := Lib.hid hp
  have hpl := Lib.hid hp.1
  have i8 : ¬ (40 : Int) < (n : Int) := by omega
  have i9 : ¬ (40 : Int) < (np : Int) := by omega
  have C := Lib.hid (gapaid_any (cp := cp) h hA h40 hp (by omega))
  clear h hp hA
  go_enter Try.func4, Try.ntmps4
  go_wp2_with fail
  refine C.out.mono ?_
  rintro e w2 ⟨b2, hC⟩
  obtain ⟨K, m, c, ok, rfl, q1, q2⟩ : ∃ (K : Option Addr) (m c : Nat) (ok : Bool), e = .returned (.tuple #[.slice K m c, .bool ok]) ∧ (PGa.PaidOk l ps → ok = true ∧ m = n ∧ ∃ L, PGa.CutTo l ps n L ∧ SlO w2 K n L) ∧ (¬ PGa.PaidOk l ps → ok = false ∧ m = 0) := by
    rcases hC with ⟨h1, B, c, L, rfl, _, h2, h3, _⟩ | ⟨h1, rfl⟩
    · exact ⟨B, n, c, true, rfl, fun _ => ⟨rfl, rfl, L, h2, h3⟩, fun h => absurd h1 h⟩
    · exact ⟨none, 0, 0, false, rfl, fun h => absurd h h1, fun _ => ⟨rfl, rfl⟩⟩
  have B2 := Lib.hid b2; have Q1 := Lib.hid q1; have Q2 := Lib.hid q2
  clear b2 hC q1 q2 C
  obtain ⟨b0, hb0⟩ : ∃ b0, ((n : Int) == (np : Int)) = b0 := ⟨_, rfl⟩
  have HB0 : Hid (b0 = true ↔ np = n) := Lib.hid (by rw [← hb0, beq_iff_eq]; omega)
  go_wp2_with fail
  go_loopw [7, 8] (fun x i wr => ∃ (k : Nat) (b : Bool), k ≤ n ∧ x = .bool b ∧ i = .int .i64 k ∧ Hid (b = true → np = n ∧ ∀ i (h : i < l.length), i < k → 0 ≤ ps.getD i 0 ∧ ps.getD i 0 ≤ l[i].ba) ∧ Hid (b = false → ¬ PGa.PaidOk l ps) ∧ Hid (Below w2.heap.size w2 wr)) (fun _ i _ => n - (intOf i).toNat)
  case atStart => exact ⟨0, b0, Nat.zero_le _, rfl, rfl, (show Hid _ from fun h => ⟨HB0.out.1 h, fun i _ h => by omega⟩), (show Hid _ from fun h k => by have := HB0.out.2 (by have h1 := k.1; rw [hpl.out, hl.out] at h1; exact h1); rw [h] at this; cases this), (show Hid _ from Below.refl _ _)⟩
  case round =>
    obtain ⟨k, b, hk, rfl, rfl, HT, HF, HW⟩ := hrel
    by_cases hlt : k < n
    · have i2 : (k : Int) < (n : Int) := by omega
      cases b with
      | true =>
        obtain ⟨hnp, hall⟩ := HT.out rfl
        obtain ⟨bP, oP, rfl, hcP⟩ := ga_at ((HP.out.on B2.out).on HW.out) (show k < np by omega)
        have c1 := hcP k (by omega)
        obtain ⟨b0, off, rfl, hc⟩ := ((H.out.on B2.out).on HW.out).cells hlt
        have hkl : k < l.length := by rw [hl.out]; exact hlt
        obtain ⟨-, -, -, d3⟩ := hc k hkl
        obtain ⟨x, hx⟩ : ∃ x, ps.getD k 0 = x := ⟨_, rfl⟩
        obtain ⟨y, hy⟩ : ∃ y, l[k].ba = y := ⟨_, rfl⟩
        rw [hx] at c1; rw [hy] at d3
        have i1 : (0 : Int) ≤ (k : Int) := by omega
        have i3 : (k : Int) < (np : Int) := by omega
        have HX := Lib.hid hx; have HY := Lib.hid hy; have HALL := Lib.hid hall; have HNP := Lib.hid hnp
        have HNO : Hid (¬ (0 ≤ x ∧ x ≤ y) → ¬ PGa.PaidOk l ps) := Lib.hid (fun h k2 => h (by have := k2.2 k hkl; rw [hx, hy] at this; exact this))
        clear hcP hc hx hy hall hnp
        by_cases h1 : 0 ≤ x
        · by_cases h2 : x ≤ y
          · have z1 : decide (0 ≤ x) = true := decide_eq_true h1
            have z2 : decide (x ≤ y) = true := decide_eq_true h2
            have HT2 : Hid (np = n ∧ ∀ i (h : i < l.length), i < k + 1 → 0 ≤ ps.getD i 0 ∧ ps.getD i 0 ≤ l[i].ba) := Lib.hid (⟨HNP.out, fun i hi h => by
              by_cases e : i = k
              · subst e; rw [HX.out, HY.out]; exact ⟨h1, h2⟩
              · exact HALL.out i hi (by omega)⟩)
            clear h1 h2 HNO HALL
            go_wp2_with fail
            go_quiet (fail)
            have BQ : Hid (Below w2.heap.size w2 (wr.drewN nq)) := Lib.hid (below_drewN HW.out _)
            go_wp2_with fail
            exact ⟨⟨k + 1, true, by omega, rfl, by congr 1, (show Hid _ from fun _ => HT2.out), (show Hid _ from fun h => by cases h), BQ⟩, by simp [intOf]; omega⟩
          · have z1 : decide (0 ≤ x) = true := decide_eq_true h1
            have z2 : decide (x ≤ y) = false := decide_eq_false h2
            have HF2 : Hid (¬ PGa.PaidOk l ps) := Lib.hid (HNO.out (fun h => h2 h.2))
            clear h1 h2 HNO HALL
            go_wp2_with fail
            go_quiet (fail)
            have BQ : Hid (Below w2.heap.size w2 (wr.drewN nq)) := Lib.hid (below_drewN HW.out _)
            go_wp2_with fail
            exact ⟨⟨k + 1, false, by omega, rfl, by congr 1, (show Hid _ from fun h => by cases h), (show Hid _ from fun _ => HF2.out), BQ⟩, by simp [intOf]; omega⟩
        · have z1 : decide (0 ≤ x) = false := decide_eq_false h1
          have HF2 : Hid (¬ PGa.PaidOk l ps) := Lib.hid (HNO.out (fun h => h1 h.1))
          clear h1 HNO HALL
          go_wp2_with fail
          go_quiet (fail)
          have BQ : Hid (Below w2.heap.size w2 (wr.drewN nq)) := Lib.hid (below_drewN HW.out _)
          go_wp2_with fail
          exact ⟨⟨k + 1, false, by omega, rfl, by congr 1, (show Hid _ from fun h => by cases h), (show Hid _ from fun _ => HF2.out), BQ⟩, by simp [intOf]; omega⟩
      | false =>
        obtain ⟨rfl, rfl⟩ := Q2.out (HF.out rfl)
        have BW := Lib.hid (below_step B2.out HW.out)
        clear Q1 Q2
        go_wp2_with fail
        refine (awake_any _).mono ?_
        rintro _ w9 ⟨rfl, b9⟩
        have B9 := Lib.hid (below_step BW.out b9)
        clear b9
        go_wp2_with fail
        go_ret
        exact ⟨rfl, B9.out⟩
    · obtain rfl : k = n := by omega
      cases b with
      | false =>
        obtain ⟨rfl, rfl⟩ := Q2.out (HF.out rfl)
        have BW := Lib.hid (below_step B2.out HW.out)
        clear Q1 Q2
        go_wp2_with fail
        refine (awake_any _).mono ?_
        rintro _ w9 ⟨rfl, b9⟩
        have B9 := Lib.hid (below_step BW.out b9)
        clear b9
        go_wp2_with fail
        go_ret
        exact ⟨rfl, B9.out⟩
      | true =>
        obtain ⟨hnp, hall⟩ := HT.out rfl
        obtain ⟨rfl, rfl, L, hcut, hsl⟩ := Q1.out ⟨by rw [hpl.out, hl.out, hnp], fun i hi => hall i hi (by rw [← hl.out]; exact hi)⟩
        subst hnp
        have HC := Lib.hid hcut; have HSL := Lib.hid hsl; have HALL := Lib.hid hall
        clear hall hcut hsl Q1 Q2 HT HF
        have e3 : ((np : Int) != (np : Int)) = false := bne_self_eq_false _
        go_wp2_with fail
        clear e3
        go_loopw [80] (fun i wy => ∃ j : Nat, j ≤ np ∧ i = .int .i64 j ∧ Hid (Below w2.heap.size w2 wy)) (fun i _ => np - (intOf i).toNat)
        case atStart => exact ⟨0, Nat.zero_le _, rfl, HW⟩
        case round =>
          obtain ⟨j, hj, rfl, HZ⟩ := hrel
          by_cases hjt : j < np
          · obtain ⟨bP, oP, rfl, hcP⟩ := ga_at ((HP.out.on B2.out).on HZ.out) hjt
            have c1 := hcP j hjt
            obtain ⟨b0, off, rfl, hc⟩ := ((H.out.on B2.out).on HZ.out).cells hjt
            have hjl : j < l.length := by rw [hl.out]; exact hjt
            have hjL : j < L.length := by rw [HC.out.1]; exact hjl
            obtain ⟨d0, d1, d2, d3⟩ := hc j hjl
            obtain ⟨b1, o1, rfl, hcL⟩ := (HSL.out.on HZ.out).cells hjt
            obtain ⟨f0, f1, f2, f3⟩ := hcL j hjL
            have hL := HC.out.2 j hjl hjL
            rw [if_pos hjt] at hL
            have hin := (H.out.2.1 j hjl).2.2.2
            have hok := HALL.out j hjl hjt
            rw [hL] at f0 f1 f2 f3
            obtain ⟨o, ho⟩ : ∃ o, l[j] = o := ⟨_, rfl⟩
            obtain ⟨x, hx⟩ : ∃ x, ps.getD j 0 = x := ⟨_, rfl⟩
            rw [ho] at d0 d1 d2 d3 f0 f1 f2 f3 hin hok
            rw [hx] at c1 f0 f1 f2 f3 hok
            obtain ⟨oc, op, ocl, oba⟩ := o
            obtain ⟨nb, hnb⟩ : ∃ z, oba - x = z := ⟨_, rfl⟩
            have f3' : wr.cell? ⟨b1, o1 + j * 4 + 3, none⟩ = some (.int .i64 nb) := by rw [← hnb]; exact f3
            have f0' : wr.cell? ⟨b1, o1 + j * 4, none⟩ = some (.int .i64 oc) := f0
            have f1' : wr.cell? ⟨b1, o1 + j * 4 + 1, none⟩ = some (.int .i64 op) := f1
            have f2' : wr.cell? ⟨b1, o1 + j * 4 + 2, none⟩ = some (.int .i64 ocl) := f2
            have e4 : IntKind.i64.wrap (oba - x) = nb := by rw [IntKind.wrap_i64]; simp only at hin hok; omega
            have i3 : (0 : Int) ≤ (j : Int) := by omega
            have i4 : (j : Int) < (np : Int) := by omega
            clear hcP hc hcL hL hin hok ho hx hnb f0 f1 f2 f3
            go_upto_region 16 with fail
            have b5 : Below wr.heap.size wr (wr.alloc (.cells #[.int .i64 oc, .int .i64 op, .int .i64 ocl, .int .i64 oba] 35)) := (Below.refl _ _).alloc (Nat.le_refl _) _
            have XA5 := Lib.hid (Box.new wr 35 [.int .i64 oc, .int .i64 op, .int .i64 ocl, .int .i64 oba])
            have HZ5 := Lib.hid (below_step HZ.out b5)
            have g1 := (b5.cell (World.block_lt_of_cell? wr _ c1)).trans c1
            have g4 := (b5.cell (World.block_lt_of_cell? wr _ f0')).trans f0'
            have g5 := (b5.cell (World.block_lt_of_cell? wr _ f1')).trans f1'
            have g6 := (b5.cell (World.block_lt_of_cell? wr _ f2')).trans f2'
            have g7 := (b5.cell (World.block_lt_of_cell? wr _ f3')).trans f3'
            have hb1 : b1 < wr.heap.size := World.block_lt_of_cell? wr _ f0'
            have hsw := HZ.out.size
            obtain ⟨G, hG⟩ : ∃ G, wr.heap.size = G := ⟨_, rfl⟩
            rw [hG] at XA5 hb1 hsw ⊢
            generalize wr.alloc (.cells [.int .i64 oc, .int .i64 op, .int .i64 ocl, .int .i64 oba].toArray 35) = w5 at *
            clear b5 hG HZ d0 d1 d2 d3 c1 f0' f1' f2' f3'
            obtain ⟨a0, a1, a2, a3⟩ := box4 XA5.out
            obtain ⟨k0, k1, k2, k3⟩ := box4f XA5.out
            go_region
            have X6 := Lib.hid ((XA5.out.set 3 (by simp) (.int .i64 nb)).on (Below.refl _ _).drew)
            have HZ6 : Hid (Below w2.heap.size w2 (w5.setCell ⟨G, 3, none⟩ (.int .i64 nb)).drew) := Lib.hid ((HZ5.out.setCell hsw _).drew)
            have r4 : (w5.setCell ⟨G, 3, none⟩ (.int .i64 nb)).drew.cell? ⟨b1, o1 + j * 4, none⟩ = some (.int .i64 oc) := by show (w5.setCell _ _).cell? _ = _; rw [World.cell?_setCell_far _ _ _ _ (by simp only; omega)]; exact g4
            have r5 : (w5.setCell ⟨G, 3, none⟩ (.int .i64 nb)).drew.cell? ⟨b1, o1 + j * 4 + 1, none⟩ = some (.int .i64 op) := by show (w5.setCell _ _).cell? _ = _; rw [World.cell?_setCell_far _ _ _ _ (by simp only; omega)]; exact g5
            have r6 : (w5.setCell ⟨G, 3, none⟩ (.int .i64 nb)).drew.cell? ⟨b1, o1 + j * 4 + 2, none⟩ = some (.int .i64 ocl) := by show (w5.setCell _ _).cell? _ = _; rw [World.cell?_setCell_far _ _ _ _ (by simp only; omega)]; exact g6
            have r7 : (w5.setCell ⟨G, 3, none⟩ (.int .i64 nb)).drew.cell? ⟨b1, o1 + j * 4 + 3, none⟩ = some (.int .i64 nb) := by show (w5.setCell _ _).cell? _ = _; rw [World.cell?_setCell_far _ _ _ _ (by simp only; omega)]; exact g7
            generalize (w5.setCell ⟨G, 3, none⟩ (.int .i64 nb)).drew = w6 at *
            clear g1 g4 g5 g6 g7 a0 a1 a2 a3 k0 k1 k2 k3 XA5 HZ5 e4
            have X6' : Hid (Box w6 G [.int .i64 oc, .int .i64 op, .int .i64 ocl, .int .i64 nb]) := X6
            obtain ⟨a0, a1, a2, a3⟩ := box4 X6'.out
            go_wp2_with fail
            go_quiet (fail)
            have BQ : Hid (Below w2.heap.size w2 (w6.drewN nq)) := Lib.hid (below_drewN HZ6.out _)
            generalize w6.drewN nq = wq at *
            clear r4 r5 r6 r7 a0 a1 a2 a3 X6
            go_wp2_with fail
            exact ⟨⟨j + 1, by omega, by congr 1, BQ⟩, by simp [intOf]; omega⟩
          · obtain rfl : j = np := by omega
            have BZ := Lib.hid (below_step B2.out HZ.out)
            go_wp2_with fail
            refine (awake_any _).mono ?_
            rintro _ w9 ⟨rfl, b9⟩
            have B9 := Lib.hid (below_step BZ.out b9)
            clear b9
            go_wp2_with fail
            go_ret
            exact ⟨rfl, B9.out⟩

set_option maxHeartbeats 3200000 in
theorem lgpaid_out {A P : Option Addr} {n ca np cp : Nat} {w : World} (hx : ¬ (n ≤ 40 ∧ np ≤ 40)) :
    Calls Try.prog 4 #[.slice A n ca, .slice P np cp] w fun e w' => e = .returned (.bool true) ∧ Below w.heap.size w w' := by
  by_cases h1 : (40 : Int) < (n : Int)
  · clear hx
    go_enter Try.func4, Try.ntmps4
    go_wp2_with fail
    refine (awake_any _).mono ?_
    rintro _ w9 ⟨rfl, b9⟩
    have B9 := Lib.hid b9
    clear b9
    go_wp2_with fail
    go_ret
    exact ⟨rfl, B9.out⟩
  · have h2 : (40 : Int) < (np : Int) := by omega
    clear hx
    go_enter Try.func4, Try.ntmps4
    go_wp2_with fail
    refine (awake_any _).mono ?_
    rintro _ w9 ⟨rfl, b9⟩
    have B9 := Lib.hid b9
    clear b9
    go_wp2_with fail
    go_ret
    exact ⟨rfl, B9.out⟩
theorem lgpaid_walk (A : Option Addr) (n ca : Nat) (l : List PGa.Ord) (P : Option Addr) (np cp : Nat) (ps : List Int) (w : World) (h : SlO w A n l ∧ (A = none → ca = 0)) (hp : Sl w P np ps) :
    Calls Try.prog 4 #[.slice A n ca, .slice P np cp] w fun e w' => e = .returned (.bool true) ∧ Below w.heap.size w w' := by
  by_cases hx : n ≤ 40 ∧ np ≤ 40
  · exact lgpaid_in h.1 h.2 hp hx.1 hx.2
  · exact lgpaid_out hx
end Go.Proofs.Ytmmgejgmlhhfdaa
