/-
  What the reference of layer 6 answers: the day behind.
-/
import Derived.Test.YtanciheeobgngaaRef06
import Derived.Deep.DeepCutAuto
import Derived.Handy
namespace Go.Proofs.Ytanciheeobgngaa
open Go.RowKit

set_option maxHeartbeats 1600000 in
theorem refnext_any (y m d : Int) (w : World) (h : PDate.ok y m d) :
    Calls Try.prog 19 #[reD y m d] w fun e w' => e = .returned (reD (PDate.nxY y m d) (PDate.nxM y m d) (PDate.nxD y m d)) ∧ Below w.heap.size w w' := by
  have HL : Hid (∀ y m w, Calls Try.prog 15 #[.int .i64 y, .int .i64 m] w fun e w' => e = .returned (.int .i64 (PDate.len y m)) ∧ Below w.heap.size w w') := Lib.hid reflen_any
  obtain ⟨⟨y0, y1⟩, ⟨m0, m1⟩, d0, d1⟩ := PDate.ok_in h
  have hlb := PDate.len_bounds y m
  clear h
  unfold reD
  go_enter Try.func19, Try.ntmps19
  go_wp2_with fail
  obtain ⟨w1, hw1⟩ : ∃ w1, w1 = (w.alloc (.cells #[.int .i64 y, .int .i64 m, .int .i64 (d + 1)] 24)).alloc (.cells #[.int .i64 0, .int .i64 0, .int .i64 0] 24) := ⟨_, rfl⟩
  rw [← hw1]
  obtain ⟨L, hL⟩ : ∃ L, L = w.heap.size := ⟨_, rfl⟩
  have DA : Hid (D3 w1 L y m (d + 1)) := Lib.hid (by rw [hw1, hL]; exact (D3.new _ _ _ _ _).alloc _)
  have DB : Hid (D3 w1 (L + 1) 0 0 0) := Lib.hid (by rw [hw1, hL]; have := D3.new (w.alloc (.cells #[.int .i64 y, .int .i64 m, .int .i64 (d + 1)] 24)) 24 0 0 0; simpa using this)
  have B1 : Hid (Below w.heap.size w w1) := Lib.hid (by rw [hw1]; exact ((Below.refl _ _).alloc (Nat.le_refl _) _).alloc (by simp) _)
  have hs : w1.heap.size = L + 2 := by rw [hw1, hL]; simp
  rw [← hL] at ⊢
  have HLw := Lib.hid hL
  clear hw1 hL
  obtain ⟨cy, cm, cd⟩ := DA.out.1
  go_cut [14] (fun t wx => t = .bool (decide (PDate.len y m < d + 1)) ∧ Below w1.heap.size w1 wx)
  case first =>
    go_region_held3 (fun w' => w'.cell? ⟨L, 0, none⟩ = some (.int .i64 y) ∧ w'.cell? ⟨L, 1, none⟩ = some (.int .i64 m) ∧ w'.cell? ⟨L, 2, none⟩ = some (.int .i64 (d + 1)))
      (first
        | go_keep
        | (refine ⟨?_, ?_, ?_⟩ <;> exact (hb7.cell (by simp; omega)).trans (by go_simp)))
      (first
        | (go_at_call 15; refine (HL.out _ _ _).mono ?_; rintro _ w7 ⟨rfl, hb7⟩))
    all_goals
      have B7 : Below w1.heap.size w1 w7 := by
        first | exact below_step (Below.refl _ _).drew hb7 | exact hb7
      clear hb7
      go_wp2_with fail
      go_meet
      exact ⟨by first | rfl | simp, B7⟩
  case rest =>
    obtain ⟨rfl, hb⟩ := hcut
    have DC := Lib.hid (DA.out.on hb)
    have RC := Lib.hid (DB.out.on hb)
    have BW : Hid (Below w.heap.size w wc) := Lib.hid (below_step B1.out hb)
    clear cy cm cd hb DA DB B1 hs w1
    by_cases h1 : d + 1 ≤ PDate.len y m
    · have t1 : decide (PDate.len y m < d + 1) = false := decide_eq_false (by omega)
      have HX : Hid (PDate.nxY y m d = y ∧ PDate.nxM y m d = m ∧ PDate.nxD y m d = d + 1) := Lib.hid (by unfold PDate.nxY PDate.nxM PDate.nxD; rw [if_pos h1, if_pos h1, if_pos h1]; exact ⟨rfl, rfl, rfl⟩)
      rw [t1]
      clear t1 h1 hlb HL
      have DQ := DC; have RQ := RC; have BQ := BW
      clear DC RC BW
      generalize wc = wq at *
      obtain ⟨q0, q1, q2⟩ := DQ.out.1
      obtain ⟨f0, f1, f2⟩ := RQ.out.2
      obtain ⟨r0, r1, r2⟩ := RQ.out.1
      have k0 := (RQ.out.set0 (y)).1.1
      have k1 := ((RQ.out.set0 (y)).set1 (m)).1.2.1
      have k2 := (((RQ.out.set0 (y)).set1 (m)).set2 (d + 1)).1.2.2
      have BE : Hid (Below w.heap.size w (((wq.setCell ⟨L + 1, 0, none⟩ (.int .i64 (y))).setCell ⟨L + 1, 1, none⟩ (.int .i64 (m))).setCell ⟨L + 1, 2, none⟩ (.int .i64 (d + 1)))) := Lib.hid (((BQ.out.setCell (by have := HLw.out; simp; omega) _).setCell (by have := HLw.out; simp; omega) _).setCell (by have := HLw.out; simp; omega) _)
      clear DQ RQ BQ
      go_wp2_with fail
      (try simp only [Exit.inBlock, Exit.then])
      refine bodyPost_ret (by simp [results, Try.results19, go_sem, k0, k1, k2]; try rfl) rfl ?_
      refine ⟨?_, BE.out⟩
      rw [HX.out.1, HX.out.2.1, HX.out.2.2]
    · have t1 : decide (PDate.len y m < d + 1) = true := decide_eq_true (by omega)
      rw [t1]
      by_cases h3 : m + 1 ≤ 12
      · have HX : Hid (PDate.nxY y m d = y ∧ PDate.nxM y m d = m + 1 ∧ PDate.nxD y m d = 1) := Lib.hid (by unfold PDate.nxY PDate.nxM PDate.nxD; rw [if_neg h1, if_neg h1, if_neg h1, if_pos h3, if_pos h3]; exact ⟨rfl, rfl, rfl⟩)
        clear t1 h1 hlb HL
        obtain ⟨c0, c1, c2⟩ := DC.out.1
        obtain ⟨e0, e1, e2⟩ := DC.out.2
        have s1 := ((DC.out.set2 1).set1 (m + 1)).1.2.1
        go_upto_region 8 with fail
        have DQ : Hid (D3 ((wc.setCell ⟨L, 2, none⟩ (.int .i64 1)).setCell ⟨L, 1, none⟩ (.int .i64 (m + 1))) L (y) (m + 1) (1)) := Lib.hid ((DC.out.set2 1).set1 (m + 1))
        have RQ : Hid (D3 ((wc.setCell ⟨L, 2, none⟩ (.int .i64 1)).setCell ⟨L, 1, none⟩ (.int .i64 (m + 1))) (L + 1) 0 0 0) := Lib.hid ((RC.out.far (by simp) _).far (by simp) _)
        have BQ : Hid (Below w.heap.size w ((wc.setCell ⟨L, 2, none⟩ (.int .i64 1)).setCell ⟨L, 1, none⟩ (.int .i64 (m + 1)))) := Lib.hid ((BW.out.setCell (by have := HLw.out; simp; omega) _).setCell (by have := HLw.out; simp; omega) _)
        clear c0 c1 c2 e0 e1 e2 DC RC BW s1
        generalize (wc.setCell ⟨L, 2, none⟩ (.int .i64 1)).setCell ⟨L, 1, none⟩ (.int .i64 (m + 1)) = wq at *
        obtain ⟨q0, q1, q2⟩ := DQ.out.1
        obtain ⟨f0, f1, f2⟩ := RQ.out.2
        obtain ⟨r0, r1, r2⟩ := RQ.out.1
        have k0 := (RQ.out.set0 (y)).1.1
        have k1 := ((RQ.out.set0 (y)).set1 (m + 1)).1.2.1
        have k2 := (((RQ.out.set0 (y)).set1 (m + 1)).set2 (1)).1.2.2
        have BE : Hid (Below w.heap.size w (((wq.setCell ⟨L + 1, 0, none⟩ (.int .i64 (y))).setCell ⟨L + 1, 1, none⟩ (.int .i64 (m + 1))).setCell ⟨L + 1, 2, none⟩ (.int .i64 (1)))) := Lib.hid (((BQ.out.setCell (by have := HLw.out; simp; omega) _).setCell (by have := HLw.out; simp; omega) _).setCell (by have := HLw.out; simp; omega) _)
        clear DQ RQ BQ
        go_wp2_with fail
        (try simp only [Exit.inBlock, Exit.then])
        refine bodyPost_ret (by simp [results, Try.results19, go_sem, k0, k1, k2]; try rfl) rfl ?_
        refine ⟨?_, BE.out⟩
        rw [HX.out.1, HX.out.2.1, HX.out.2.2]
      · obtain rfl : m = 12 := by omega
        have HX : Hid (PDate.nxY y 12 d = y + 1 ∧ PDate.nxM y 12 d = 1 ∧ PDate.nxD y 12 d = 1) := Lib.hid (by unfold PDate.nxY PDate.nxM PDate.nxD; rw [if_neg h1, if_neg h1, if_neg h1, if_neg h3, if_neg h3]; exact ⟨rfl, rfl, rfl⟩)
        clear t1 h1 hlb HL
        obtain ⟨c0, c1, c2⟩ := DC.out.1
        obtain ⟨e0, e1, e2⟩ := DC.out.2
        have s1 := ((DC.out.set2 1).set1 13).1.2.1
        go_upto_region 8 with fail
        have DQ : Hid (D3 ((((wc.setCell ⟨L, 2, none⟩ (.int .i64 1)).setCell ⟨L, 1, none⟩ (.int .i64 13)).setCell ⟨L, 1, none⟩ (.int .i64 1)).setCell ⟨L, 0, none⟩ (.int .i64 (y + 1))) L (y + 1) (1) (1)) := Lib.hid ((((DC.out.set2 1).set1 13).set1 1).set0 (y + 1))
        have RQ : Hid (D3 ((((wc.setCell ⟨L, 2, none⟩ (.int .i64 1)).setCell ⟨L, 1, none⟩ (.int .i64 13)).setCell ⟨L, 1, none⟩ (.int .i64 1)).setCell ⟨L, 0, none⟩ (.int .i64 (y + 1))) (L + 1) 0 0 0) := Lib.hid ((((RC.out.far (by simp) _).far (by simp) _).far (by simp) _).far (by simp) _)
        have BQ : Hid (Below w.heap.size w ((((wc.setCell ⟨L, 2, none⟩ (.int .i64 1)).setCell ⟨L, 1, none⟩ (.int .i64 13)).setCell ⟨L, 1, none⟩ (.int .i64 1)).setCell ⟨L, 0, none⟩ (.int .i64 (y + 1)))) := Lib.hid ((((BW.out.setCell (by have := HLw.out; simp; omega) _).setCell (by have := HLw.out; simp; omega) _).setCell (by have := HLw.out; simp; omega) _).setCell (by have := HLw.out; simp; omega) _)
        clear c0 c1 c2 e0 e1 e2 DC RC BW s1
        generalize (((wc.setCell ⟨L, 2, none⟩ (.int .i64 1)).setCell ⟨L, 1, none⟩ (.int .i64 13)).setCell ⟨L, 1, none⟩ (.int .i64 1)).setCell ⟨L, 0, none⟩ (.int .i64 (y + 1)) = wq at *
        obtain ⟨q0, q1, q2⟩ := DQ.out.1
        obtain ⟨f0, f1, f2⟩ := RQ.out.2
        obtain ⟨r0, r1, r2⟩ := RQ.out.1
        have k0 := (RQ.out.set0 (y + 1)).1.1
        have k1 := ((RQ.out.set0 (y + 1)).set1 (1)).1.2.1
        have k2 := (((RQ.out.set0 (y + 1)).set1 (1)).set2 (1)).1.2.2
        have BE : Hid (Below w.heap.size w (((wq.setCell ⟨L + 1, 0, none⟩ (.int .i64 (y + 1))).setCell ⟨L + 1, 1, none⟩ (.int .i64 (1))).setCell ⟨L + 1, 2, none⟩ (.int .i64 (1)))) := Lib.hid (((BQ.out.setCell (by have := HLw.out; simp; omega) _).setCell (by have := HLw.out; simp; omega) _).setCell (by have := HLw.out; simp; omega) _)
        clear DQ RQ BQ
        go_wp2_with fail
        (try simp only [Exit.inBlock, Exit.then])
        refine bodyPost_ret (by simp [results, Try.results19, go_sem, k0, k1, k2]; try rfl) rfl ?_
        refine ⟨?_, BE.out⟩
        rw [HX.out.1, HX.out.2.1, HX.out.2.2]
end Go.Proofs.Ytanciheeobgngaa
