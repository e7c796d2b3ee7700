/-
  GarnishExact: what any orders are paid of any net is what the document says, or refused.
-/
import Derived.Test.YtmmgejgmlhhfdaaLaw15MoreG
import Derived.Test.YtmmgejgmlhhfdaaRef15ServeG
namespace Go.Proofs.Ytmmgejgmlhhfdaa
open Go.RowKit

set_option maxHeartbeats 3200000 in
set_option maxRecDepth 100000 in
theorem lgexact_in {A : Option Addr} {n ca : Nat} {l : List PGa.Ord} {w : World} {net prot : Int} (h : SlO w A n l) (h40 : n ≤ 40) :
    Calls Try.prog 3 #[.int .i64 net, .int .i64 prot, .slice A n ca] w fun e w' => e = .returned (.bool true) ∧ Below w.heap.size w w' := by
  have i8 : ¬ (40 : Int) < (n : Int) := by omega
  obtain ⟨E, hE⟩ : ∃ E, PGa.err net prot l = E := ⟨_, rfl⟩
  obtain ⟨T, hT⟩ : ∃ T, PGa.there net prot = T := ⟨_, rfl⟩
  have C := gaserve_any (cap := ca) (net := net) (prot := prot) h
  rw [hE, hT] at C
  have HC := Lib.hid C
  have M : Hid (∀ w', Below w.heap.size w w' → Calls Try.prog 12 #[.int .i64 net, .int .i64 prot, .slice A n ca] w' fun e w'' => e = .returned (.int .i64 E) ∧ Below w'.heap.size w' w'') := Lib.hid (fun w' hb => by
    have := gamay_any (cap := ca) (net := net) (prot := prot) (h.on hb)
    rw [hE] at this; exact this)
  by_cases f1 : E = 0
  · have R : Hid (∀ w', Below w.heap.size w w' → Calls Try.prog 14 #[.int .i64 net, .int .i64 prot, .slice A n ca] w' fun e w'' => ∃ B c, e = .returned (.slice B n c) ∧ Sl w'' B n (PSplit.wlist (PGa.served T l) n) ∧ Below w'.heap.size w' w'') := Lib.hid (fun w' hb => by
      have := refgaserve (cap := ca) (h.on hb) (hE.trans f1)
      rw [hT] at this; exact this)
    subst f1
    clear h hE hT C h40
    go_enter Try.func3, Try.ntmps3
    go_wp2_with fail
    refine HC.out.mono ?_
    rintro _ w2 ⟨B, m, c, rfl, b2, y2, -⟩
    obtain ⟨rfl, s2, -⟩ := y2 rfl
    have S2 := Lib.hid s2; have B2 := Lib.hid b2
    clear y2 s2 b2 HC
    go_wp2_with fail
    refine (M.out _ B2.out).mono ?_
    rintro _ w3 ⟨rfl, b3⟩
    have S3 := Lib.hid (S2.out.on b3); have B3 := Lib.hid (below_step B2.out b3)
    clear b3 M S2 B2
    have e0 : ((0 : Int) != 0) = false := rfl
    have e1 : ((0 : Int) == 0) = true := rfl
    go_wp2_with fail
    refine (R.out _ B3.out).mono ?_
    rintro _ w4 ⟨B4, c4, rfl, s4, b4⟩
    have S4 := Lib.hid (S3.out.on b4); have B4' := Lib.hid (below_step B3.out b4); have S5 := Lib.hid s4
    clear b4 s4 R S3 B3
    go_wp2_with fail
    refine (same_any B B4 m m c c4 _ _ _ S4.out S5.out).mono ?_
    rintro _ w5 ⟨rfl, b5⟩
    rw [decide_eq_true (rfl : PSplit.wlist (PGa.served T l) m = PSplit.wlist (PGa.served T l) m)]
    have B5 := Lib.hid (below_step B4'.out b5)
    clear b5
    go_wp2_with fail
    refine (awake_any _).mono ?_
    rintro _ w9 ⟨rfl, b9⟩
    have B9 := Lib.hid (below_step B5.out b9)
    clear b9
    go_wp2_with fail
    go_ret
    exact ⟨rfl, B9.out⟩
  · have a1 : (E != 0) = true := bne_iff_ne.2 f1
    have a2 : (E == E) = true := beq_self_eq_true _
    have HNE := Lib.hid f1
    clear h hE hT f1 C h40
    go_enter Try.func3, Try.ntmps3
    go_wp2_with fail
    refine HC.out.mono ?_
    rintro _ w2 ⟨B, m, c, rfl, b2, -, z2⟩
    obtain ⟨rfl, -⟩ := z2 HNE.out
    have B2 := Lib.hid b2
    clear b2 z2 HC
    go_wp2_with fail
    refine (M.out _ B2.out).mono ?_
    rintro _ w3 ⟨rfl, b3⟩
    have B3 := Lib.hid (below_step B2.out b3)
    clear b3 M B2
    go_wp2_with fail
    refine (awake_any _).mono ?_
    rintro _ w9 ⟨rfl, b9⟩
    have B9 := Lib.hid (below_step B3.out b9)
    clear b9
    go_wp2_with fail
    go_ret
    exact ⟨rfl, B9.out⟩
set_option maxHeartbeats 3200000 in
theorem lgexact_out {A : Option Addr} {n ca : Nat} {w : World} {net prot : Int} (h8 : ¬ n ≤ 40) :
    Calls Try.prog 3 #[.int .i64 net, .int .i64 prot, .slice A n ca] w fun e w' => e = .returned (.bool true) ∧ Below w.heap.size w w' := by
  have i8 : (40 : Int) < (n : Int) := by omega
  clear h8
  go_enter Try.func3, Try.ntmps3
  go_wp2_with fail
  refine (awake_any _).mono ?_
  rintro _ w9 ⟨rfl, b9⟩
  have B9 := Lib.hid b9
  clear b9
  go_wp2_with fail
  go_ret
  exact ⟨rfl, B9.out⟩
theorem lgexact_walk (net prot : Int) (A : Option Addr) (n ca : Nat) (l : List PGa.Ord) (w : World) (_ : (Lit.int .i64 net).wf = true) (_ : (Lit.int .i64 prot).wf = true) (h : SlO w A n l) :
    Calls Try.prog 3 #[.int .i64 net, .int .i64 prot, .slice A n ca] w fun e w' => e = .returned (.bool true) ∧ Below w.heap.size w w' := by
  by_cases h40 : n ≤ 40
  · exact lgexact_in h h40
  · exact lgexact_out h40
end Go.Proofs.Ytmmgejgmlhhfdaa
