/-
  SplitOne: all weights but one 0, that one has all; a weight of 0 more, behind, turns nothing.
-/
import Derived.Test.YtijjagnlfhiogaaLaw04MoreMath
import Derived.Test.YtijjagnlfhiogaaSaidKit
namespace Go.Proofs.Ytijjagnlfhiogaa
open Go.RowKit

theorem app_get {ws : List Int} {i : Nat} (h : i < ws.length) : (ws ++ [(0 : Int)]).getD i 0 = ws.getD i 0 := by simp [List.getD, List.getElem?_append_left h]
theorem app_last (ws : List Int) : (ws ++ [(0 : Int)]).getD ws.length 0 = 0 := by simp [List.getD]

set_option maxHeartbeats 6400000 in
set_option maxRecDepth 100000 in
theorem one_in (T N K : Nat) (a m t : Int) (A : Option Addr) (n cap : Nat) (ws : List Int) (w : World) (hA : Sl w A n ws) (hcap : A = none → cap = 0) (hn : n ≤ 59) (ha : a / 2 = (T : Int)) (hm : 1 + m % 40 = (N : Int)) (ht : t % (N : Int) = (K : Int))
    (ha0 : 0 ≤ a) (ha1 : a ≤ 18446744073709551615) (hm0 : 0 ≤ m) (hm1 : m ≤ 255) (ht0 : 0 ≤ t) (ht1 : t ≤ 255) :
    Calls Try.prog 7 #[.int .u64 a, .slice A n cap, .int .u8 m, .int .u8 t] w fun e w' => e = .returned (.bool true) ∧ Below w.heap.size w w' := by
  have hT : T ≤ 9223372036854775807 := by omega
  have hN0 : 1 ≤ N := by omega
  have hN1 : N ≤ 40 := by omega
  have hK : K < N := by have := Int.emod_lt_of_pos t (show (0 : Int) < (N : Int) by omega); omega
  have ht' : t.tmod (N : Int) = (K : Int) := by rw [Int.tmod_eq_emod_of_nonneg ht0]; exact ht
  have HA := Lib.hid hA
  have HCAP := Lib.hid hcap
  have hlen := hA.1
  have hmk := make_row N (by omega)
  have OA := Lib.hid (PSplit.one_all T (n := N) (k := K) (by omega) hK)
  have MS := Lib.hid (PSplit.more_same (T : Int) (ws := ws) (by omega))
  have SP : Hid (∀ A n c ws w, Sl w A n ws → Calls Try.prog 9 #[.int .i64 T, .slice A n c] w (SplR (PSplit.listOf T ws) (PSplit.errOf T ws) w)) := Lib.hid (fun A n c ws w h => split_any T A n c ws w h (by omega))
  have a1 : ¬ (59 : Int) < (n : Int) := by omega
  have k0 : (0 : Int) ≤ (K : Int) := by omega
  have k1 : (K : Int) < (N : Int) := by omega
  have R0 : Hid (Rw (w.alloc (.cells (madeCells #[.int .i64 0] N) 3)) w.heap.size N (List.replicate N 0)) := Lib.hid (Rw.of_row (made_row w w.heap.size N rfl (by omega)) List.length_replicate)
  have B0 : Hid (Below w.heap.size w (w.alloc (.cells (madeCells #[.int .i64 0] N) 3))) := Lib.hid ((Below.refl _ _).alloc (Nat.le_refl _) _)
  clear hA hcap
  go_enter Try.func7, Try.ntmps7
  go_upto_region 5 with fail
  obtain ⟨w1, hw1⟩ : ∃ w1, w1 = w.alloc (.cells (madeCells #[.int .i64 0] N) 3) := ⟨_, rfl⟩
  rw [← hw1] at R0 B0 ⊢
  clear hw1 hmk
  have c1 := (R0.out.2 K hK).1
  have c2 := (R0.out.2 K hK).2
  have R1 : Hid (Rw (w1.setCell ⟨w.heap.size, K, none⟩ (.int .i64 7)) w.heap.size N ((List.replicate N 0).set K 7)) := Lib.hid (R0.out.set hK 7)
  have B1 : Hid (Below w.heap.size w (w1.setCell ⟨w.heap.size, K, none⟩ (.int .i64 7))) := Lib.hid (B0.out.setCell (Nat.le_refl _) _)
  have S1 : Hid (Sl (w1.setCell ⟨w.heap.size, K, none⟩ (.int .i64 7)) (some ⟨w.heap.size, 0, none⟩) N (PSplit.natL (fun i => if i = K then 7 else 0) N)) := Lib.hid (R1.out.sl (PSplit.natL_len _ _) (fun t ht => by
    rw [set_get List.length_replicate hK, PSplit.natL_get ht]
    by_cases e : t = K
    · rw [if_pos e, if_pos e]; rfl
    · rw [if_neg e, if_neg e, PSplit.rep_get ht]; rfl) (in64_nat (f := fun i => if i = K then 7 else 0) (fun i hi => by by_cases e : i = K <;> simp [e])) (by omega))
  go_wp2_with fail
  have C1 : Hid (∀ A c w, Sl w A N (PSplit.natL (fun i => if i = K then 7 else 0) N) → Calls Try.prog 9 #[.int .i64 T, .slice A N c] w (SplR (PSplit.listOf T (PSplit.natL (fun i => if i = K then 7 else 0) N)) 0 w)) := Lib.hid (fun A c w h => by
    have := SP.out A N c _ w h
    rw [OA.out.1] at this; exact this)
  obtain ⟨-, hl1, hl2⟩ := OA.out
  clear OA
  obtain ⟨L0, hL0⟩ : ∃ L0, L0 = PSplit.listOf T (PSplit.natL (fun i => if i = K then 7 else 0) N) := ⟨_, rfl⟩
  rw [← hL0] at C1 hl1 hl2
  clear hL0
  have HL1 := Lib.hid hl1; have HL2 := Lib.hid hl2
  clear hl1 hl2
  refine (C1.out _ _ _ S1.out).mono ?_
  rintro _ w2 ⟨B, q, c, rfl, -, -, s2, b2⟩
  obtain rfl : N = q := by have := s2.1; have := HL1.out; omega
  have S2 := Lib.hid s2
  have HA2 := Lib.hid (HA.out.on (B1.out.trans (b2.mono (by simp [World.setCell]; have := B1.out.size; simp [World.setCell] at this; omega))))
  have HB2 : Hid (Below w.heap.size w w2) := Lib.hid (B1.out.trans (b2.mono (by simp [World.setCell]; have := B1.out.size; simp [World.setCell] at this; omega)))
  clear b2 s2 C1 S1 R1 B1 R0 B0 c1 c2
  obtain ⟨b1, o1, rfl, hcb⟩ : ∃ b off, B = some ⟨b, off, none⟩ ∧ ∀ i, i < N → w2.cell? ⟨b, off + i, none⟩ = some (.int .i64 (L0.getD i 0)) := by
    rcases S2.out.2.2.2 with h | h
    · omega
    · exact h
  have c3 := hcb K hK
  rw [HL2.out] at c3
  clear hcb S2 HL1 HL2
  have n1 : ((N : Int) != (N : Int)) = false := bne_self_eq_false _
  have n2 : ((T : Int) != (T : Int)) = false := bne_self_eq_false _
  go_wp2_with fail
  refine (SP.out _ _ _ _ _ HA2.out).mono ?_
  rintro _ w3 ⟨A3, p, c4, rfl, -, -, s3, b3⟩
  have S3 := Lib.hid s3
  have HA3 := Lib.hid (HA2.out.on b3)
  have HB3 := Lib.hid (below_step HB2.out b3)
  clear s3 b3 HA2 HB2 HA c3 n1 n2
  go_upto_region 12 with fail
  have hsz3 := HB3.out.size
  have O0 : Hid ((w3.alloc (.cells #[] 3)).ownsRow w3.heap.size 3 1 (.slice (some ⟨w3.heap.size, 0, none⟩) 0 0) 0 (cellsOfInts [])) := Lib.hid (by
    have := World.ownsRow_lit (base := w3.heap.size) (e := 3) (size := 1) w3 #[] 0 (by omega) (by unfold maxLen; omega) (by simp)
    exact this)
  have hsa : w3.heap.size ≤ (w3.alloc (.cells #[] 3)).heap.size := by simp
  have HA4 : Hid (Sl (w3.alloc (.cells #[] 3)) A n ws) := Lib.hid (HA3.out.on ((Below.refl _ _).alloc (Nat.le_refl _) _))
  have B4 : Hid (Below w3.heap.size w3 (w3.alloc (.cells #[] 3))) := Lib.hid ((Below.refl _ _).alloc (Nat.le_refl _) _)
  go_wp2_with (at_builtin; refine append_sl rfl _ _ rfl w3.heap.size _ 0 [] (by rfl) O0.out A n cap ws (by rfl) HCAP.out HA4.out (by omega) hsa ?_)
  intro v' w4 hown4 hg4
  have O4 := Lib.hid hown4
  have B5 : Hid (Below w3.heap.size w3 w4) := Lib.hid (B4.out.grown hg4 hsa (fun k hk => by cases hk; exact Nat.le_refl _))
  have hs5 := B5.out.size
  clear hown4 hg4 O0 HA4 B4 hsa
  go_wp2_with (at_builtin; refine append_one rfl _ _ rfl w3.heap.size _ n _ 0 (by rfl) O4.out (by rfl) (by omega) hs5 ?_)
  intro v5 w5 hown5 hb5
  have B6 : Hid (Below w3.heap.size w3 w5) := Lib.hid (B5.out.trans hb5)
  obtain ⟨P, pc, rfl, -, -, -, s5⟩ := sl_of_own hown5 (fun i hi => by
    have hi' : i < n + 1 := by simp [hlen] at hi; omega
    by_cases e : i < n
    · have := HA3.out.2.1 i e
      rw [app_get (by omega)]
      exact this
    · obtain rfl : i = ws.length := by omega
      rw [app_last]
      omega) (by omega)
  have S5 := Lib.hid s5
  have S6 := Lib.hid (S3.out.on B6.out)
  have HB6 := Lib.hid (below_step HB3.out B6.out)
  have C2 : Hid (∀ A c w, Sl w A (n + 1) (ws ++ [0]) → Calls Try.prog 9 #[.int .i64 T, .slice A (n + 1) c] w (SplR (PSplit.listOf T (ws ++ [0])) (PSplit.errOf T ws) w)) := Lib.hid (fun A c w h => by
    have := SP.out A (n + 1) c _ w h
    rw [MS.out.1] at this; exact this)
  have M2 := Lib.hid MS.out.2
  have HL0 : Hid (PSplit.errOf (T : Int) ws ≠ 0 → PSplit.listOf (T : Int) (ws ++ [0]) = []) := Lib.hid (fun h => by unfold PSplit.listOf; rw [if_neg (by rw [MS.out.1]; exact h)])
  clear hown5 hb5 s5 O4 B5 B6 S3 HB3 SP MS HA3 hs5 hsz3
  generalize PSplit.errOf (T : Int) ws = E at *
  generalize PSplit.listOf (T : Int) ws = La at *
  generalize PSplit.listOf (T : Int) (ws ++ [0]) = Lb at *
  go_wp2_with fail
  refine (C2.out _ _ _ S5.out).mono ?_
  rintro _ w6 ⟨A6, p6, c6, rfl, -, hp6, s6, b6⟩
  have R6 := Lib.hid s6
  have S7 := Lib.hid (S6.out.on b6)
  have HB7 := Lib.hid (below_step HB6.out b6)
  have ee : (E != E) = false := bne_self_eq_false _
  clear s6 b6 S5 C2 S6 HB6
  by_cases hE : E = 0
  · obtain ⟨m1, m2⟩ := M2.out hE
    have hp : p = n := by have := S7.out.1; omega
    have hp' : p6 = n + 1 := by have := R6.out.1; rw [m1, List.length_append] at this; simp at this; omega
    subst hE hp hp'
    obtain ⟨b7, o7, rfl, hc7⟩ : ∃ b off, A6 = some ⟨b, off, none⟩ ∧ ∀ i, i < p + 1 → w6.cell? ⟨b, off + i, none⟩ = some (.int .i64 (Lb.getD i 0)) := by
      rcases R6.out.2.2.2 with h | h
      · omega
      · exact h
    have c7 := hc7 p (by omega)
    have hlast := app_last La
    rw [m2, hlen] at hlast
    rw [m1, hlast] at c7
    have R7 : Hid (Sl w6 (some ⟨b7, o7, none⟩) p La) := Lib.hid (by
      have := R6.out.take (show p ≤ p + 1 by omega)
      rw [m1, List.take_left' (by omega)] at this
      exact this)
    clear hc7 m1 m2 R6 M2 HL0
    have q0 : (0 : Int) ≤ (p : Int) := by omega
    have q1 : (p : Int) < ((p + 1 : Nat) : Int) := by omega
    have q2 : (((p + 1 : Nat) : Int) != (p : Int) + 1) = false := by rw [bne_eq_false_iff_eq]; omega
    go_wp2_with fail
    refine (same_any _ A3 p p c6 c4 La La _ R7.out S7.out).mono ?_
    rintro _ w7 ⟨rfl, b8⟩
    rw [decide_eq_true (rfl : La = La)]
    have HB8 := Lib.hid (below_step HB7.out b8)
    clear b8
    go_wp2_with fail
    refine (awake_any _).mono ?_
    rintro _ w8 ⟨rfl, b9⟩
    have HB9 := Lib.hid (below_step HB8.out b9)
    clear b9
    go_wp2_with fail
    go_ret
    exact ⟨rfl, HB9.out⟩
  · have e0 : (E == 0) = false := by rw [beq_eq_false_iff_ne]; exact hE
    clear hE M2 HL0
    go_wp2_with fail
    refine (awake_any _).mono ?_
    rintro _ w8 ⟨rfl, b9⟩
    have HB9 := Lib.hid (below_step HB7.out b9)
    clear b9
    go_wp2_with fail
    go_ret
    exact ⟨rfl, HB9.out⟩

theorem sone_walk (a : Int) (A : Option Addr) (n cap : Nat) (ws : List Int) (m t : Int) (w : World) (h0 : (Lit.int .u64 a).wf = true) (hA : Sl w A n ws ∧ (A = none → cap = 0)) (h1 : (Lit.int .u8 m).wf = true) (h2 : (Lit.int .u8 t).wf = true) :
    Calls Try.prog 7 #[.int .u64 a, .slice A n cap, .int .u8 m, .int .u8 t] w fun e w' => e = .returned (.bool true) ∧ Below w.heap.size w w' := by
  obtain ⟨a0, a1⟩ := u64_bounds h0
  obtain ⟨m0, m1⟩ := u8_bounds h1
  obtain ⟨t0, t1⟩ := u8_bounds h2
  have hm := hA.1.2.2.1
  by_cases hn : n ≤ 59
  · have hk := Int.emod_nonneg t (show (1 + m % 40 : Int) ≠ 0 by omega)
    exact one_in (a / 2).toNat (1 + m % 40).toNat (t % (1 + m % 40)).toNat a m t A n cap ws w hA.1 hA.2 hn (by omega) (by omega) (by rw [show (((1 + m % 40).toNat : Nat) : Int) = 1 + m % 40 by omega]; omega) a0 a1 m0 m1 t0 t1
  · have a1 : (59 : Int) < (n : Int) := by omega
    clear hA hn
    go_enter Try.func7, Try.ntmps7
    go_wp2_with fail
    refine (awake_any _).mono ?_
    rintro _ w1 ⟨rfl, b1⟩
    go_wp2_with fail
    go_ret
    exact ⟨rfl, b1⟩
end Go.Proofs.Ytijjagnlfhiogaa
