/-
  WideModes: Down is never farther from 0 than the others, Up never nearer; all are at most 1 apart; where nothing is left over all are the same, and times c it is the product.
-/
import Derived.Test.YtnnhlhdijfhepaaLaw02Units
namespace PDigs
theorem rounded_up (P C : Nat) : rounded 1 P C = P / C + if 0 < P % C then 1 else 0 := by
  unfold rounded
  congr 1
  by_cases h : 0 < P % C
  · rw [if_pos h, if_pos]; simp [upB, h]
  · rw [if_neg h, if_neg]; simp [upB, h]
theorem upB_pos {m q R C : Nat} (h : upB m q R C = true) (hC : 0 < C) : 0 < R := by
  by_cases k : R = 0
  · subst k; rw [upB_zero m q C hC] at h; cases h
  · omega
theorem rounded_le_up (m P C : Nat) (hC : 0 < C) : rounded m P C ≤ rounded 1 P C := by
  rw [rounded_up]
  unfold rounded
  by_cases hu : upB m (P / C) (P % C) C = true
  · rw [if_pos hu, if_pos (upB_pos hu hC)]; exact Nat.le_refl _
  · rw [if_neg hu]; split <;> omega
end PDigs
namespace Go.Proofs.Ytnnhlhdijfhepaa
open Go.RowKit

theorem md_ok {a b c n : Int} {m : Nat} (hm : m ≤ 3) (h : md a b c m = (n, 0)) :
    c ≠ 0 ∧ n.natAbs = PDigs.rounded m (a.natAbs * b.natAbs) c.natAbs ∧ n = (if a.sign * b.sign * c.sign < 0 then -((PDigs.rounded m (a.natAbs * b.natAbs) c.natAbs : Nat) : Int) else ((PDigs.rounded m (a.natAbs * b.natAbs) c.natAbs : Nat) : Int)) := by
  unfold md at h
  rw [if_neg (by omega), Int.toNat_natCast] at h
  split at h
  · exact absurd (Prod.mk.inj h).2 (by decide)
  · split at h
    · exact absurd (Prod.mk.inj h).2 (by decide)
    · split at h
      · exact absurd (Prod.mk.inj h).2 (by decide)
      · have hn := (Prod.mk.inj h).1
        refine ⟨by assumption, ?_, hn.symm⟩
        rw [← hn]; split <;> simp
theorem md_bad {a b c n e : Int} {m : Nat} (hm : m ≤ 3) (h : md a b c m = (n, e)) (he : e ≠ 0) : n = 0 ∧ e ≠ 1 := by
  unfold md at h
  rw [if_neg (by omega), Int.toNat_natCast] at h
  (repeat' split at h) <;> (obtain ⟨h1, h2⟩ := Prod.mk.inj h) <;> first | (exact ⟨h1.symm, by omega⟩) | (exact absurd h2.symm he)
theorem max_abs (n : Int) : (if n < -n then -n else n) = ((n.natAbs : Nat) : Int) := by split <;> omega

/-- Nothing left over: the quotient, with its sign, times the divisor is the product. -/
theorem prod_back {a b c n : Int} {q : Nat} (hc : c ≠ 0) (hP : a.natAbs * b.natAbs = q * c.natAbs) (hn : n = if a.sign * b.sign * c.sign < 0 then -(q : Int) else (q : Int)) : a * b = n * c := by
  have e1 : a * b = (a.sign * b.sign) * ((a.natAbs * b.natAbs : Nat) : Int) := by
    rw [← Int.sign_mul, ← Int.natAbs_mul, Int.sign_mul_natAbs]
  have e2 : c = c.sign * ((c.natAbs : Nat) : Int) := (Int.sign_mul_natAbs c).symm
  by_cases h0 : a * b = 0
  · have hz : q * c.natAbs = 0 := by rw [← hP, ← Int.natAbs_mul, h0]; rfl
    have hq : q = 0 := by
      rcases Nat.mul_eq_zero.1 hz with h | h
      · exact h
      · exact absurd (Int.natAbs_eq_zero.1 h) hc
    subst hq
    rw [h0, hn]; simp
  · have hs : a.sign * b.sign = 1 ∨ a.sign * b.sign = -1 := by
      rw [← Int.sign_mul]
      rcases Int.lt_or_gt_of_ne h0 with h | h
      · exact .inr (Int.sign_eq_neg_one_of_neg h)
      · exact .inl (Int.sign_eq_one_of_pos h)
    have hk : c.sign = 1 ∨ c.sign = -1 := by
      rcases Int.lt_or_gt_of_ne hc with h | h
      · exact .inr (Int.sign_eq_neg_one_of_neg h)
      · exact .inl (Int.sign_eq_one_of_pos h)
    rw [e1, hP, Int.natCast_mul]
    rcases hs with hs | hs <;> rcases hk with hk | hk <;> rw [hs, hk] at hn <;> rw [hs] <;> rw [hk] at e2 <;> simp at hn <;> rw [hn] <;> (generalize ((c.natAbs : Nat) : Int) = v at *) <;> rw [e2] <;> simp [Int.neg_mul, Int.mul_neg]

/-- What the modes answer of one product, where none is refused. -/
theorem modes_apart {a b c n0 n1 n2 n3 : Int} (h0 : md a b c 0 = (n0, 0)) (h1 : md a b c 1 = (n1, 0)) (h2 : md a b c 2 = (n2, 0)) (h3 : md a b c 3 = (n3, 0)) :
    n0.natAbs ≤ n1.natAbs ∧ n0.natAbs ≤ n2.natAbs ∧ n0.natAbs ≤ n3.natAbs ∧ n2.natAbs ≤ n1.natAbs ∧ n3.natAbs ≤ n1.natAbs ∧ n1.natAbs ≤ n0.natAbs + 1 ∧ (n0.natAbs = n1.natAbs ↔ a * b = n0 * c) := by
  obtain ⟨hc, r0, s0⟩ := md_ok (m := 0) (by omega) h0
  obtain ⟨-, r1, -⟩ := md_ok (m := 1) (by omega) h1
  obtain ⟨-, r2, -⟩ := md_ok (m := 2) (by omega) h2
  obtain ⟨-, r3, -⟩ := md_ok (m := 3) (by omega) h3
  have hC : 0 < c.natAbs := by omega
  have hdm := Nat.div_add_mod (a.natAbs * b.natAbs) c.natAbs
  rw [PDigs.rounded_down] at r0 s0
  have u2 := PDigs.rounded_le_up 2 (a.natAbs * b.natAbs) c.natAbs hC
  have u3 := PDigs.rounded_le_up 3 (a.natAbs * b.natAbs) c.natAbs hC
  have l2 := PDigs.le_rounded 2 (a.natAbs * b.natAbs) c.natAbs
  have l3 := PDigs.le_rounded 3 (a.natAbs * b.natAbs) c.natAbs
  have hu := PDigs.rounded_up (a.natAbs * b.natAbs) c.natAbs
  rw [← r1] at hu u2 u3
  rw [← r2] at u2 l2
  rw [← r3] at u3 l3
  have key : a * b = n0 * c ↔ (a.natAbs * b.natAbs) % c.natAbs = 0 := by
    constructor
    · intro h
      have h' := congrArg Int.natAbs h
      rw [Int.natAbs_mul, Int.natAbs_mul] at h'
      rw [h', Nat.mul_mod_left]
    · intro h
      have hP : a.natAbs * b.natAbs = a.natAbs * b.natAbs / c.natAbs * c.natAbs := (Nat.div_mul_cancel (Nat.dvd_of_mod_eq_zero h)).symm
      exact prod_back hc hP s0
  rw [key, r0]
  refine ⟨?_, l2, l3, u2, u3, ?_, ?_⟩ <;> (rw [hu]; split <;> omega)

/-- The four numbers, in the block that the call made first. -/
def Arr (w wr : World) (x0 x1 x2 x3 : Int) : Prop :=
  wr.cell? ⟨w.heap.size, 0, none⟩ = some (.int .i64 x0) ∧ wr.cell? ⟨w.heap.size, 1, none⟩ = some (.int .i64 x1) ∧ wr.cell? ⟨w.heap.size, 2, none⟩ = some (.int .i64 x2) ∧ wr.cell? ⟨w.heap.size, 3, none⟩ = some (.int .i64 x3) ∧
  wr.frozen? ⟨w.heap.size, 0, none⟩ = false ∧ wr.frozen? ⟨w.heap.size, 1, none⟩ = false ∧ wr.frozen? ⟨w.heap.size, 2, none⟩ = false ∧ wr.frozen? ⟨w.heap.size, 3, none⟩ = false ∧ w.heap.size < wr.heap.size ∧ Below w.heap.size w wr
theorem Arr.on {w wr w' : World} {x0 x1 x2 x3 : Int} (h : Arr w wr x0 x1 x2 x3) (hb : Below wr.heap.size wr w') : Arr w w' x0 x1 x2 x3 := by
  obtain ⟨h0, h1, h2, h3, f0, f1, f2, f3, hl, hw⟩ := h
  exact ⟨(hb.cell hl).trans h0, (hb.cell hl).trans h1, (hb.cell hl).trans h2, (hb.cell hl).trans h3, (hb.frozen hl).trans f0, (hb.frozen hl).trans f1, (hb.frozen hl).trans f2, (hb.frozen hl).trans f3, Nat.lt_of_lt_of_le hl hb.size, below_step hw hb⟩
theorem max_abs' (n : Int) : max n (-n) = ((n.natAbs : Nat) : Int) := by omega
theorem Arr.set0 {w wr : World} {x0 x1 x2 x3 : Int} (h : Arr w wr x0 x1 x2 x3) (v : Int) : Arr w (wr.setCell ⟨w.heap.size, 0, none⟩ (.int .i64 v)) v x1 x2 x3 := by
  obtain ⟨h0, h1, h2, h3, f0, f1, f2, f3, hl, hw⟩ := h
  refine ⟨?_, ?_, ?_, ?_, ?_, ?_, ?_, ?_, ?_, hw.setCell (Nat.le_refl _) _⟩
  all_goals first | (rw [World.cell?_setCell_other _ _ _ _ (by simp)]; assumption) | (go_simp; done) | (simp [*]; done) | trace_state
theorem Arr.set1 {w wr : World} {x0 x1 x2 x3 : Int} (h : Arr w wr x0 x1 x2 x3) (v : Int) : Arr w (wr.setCell ⟨w.heap.size, 1, none⟩ (.int .i64 v)) x0 v x2 x3 := by
  obtain ⟨h0, h1, h2, h3, f0, f1, f2, f3, hl, hw⟩ := h
  refine ⟨?_, ?_, ?_, ?_, ?_, ?_, ?_, ?_, ?_, hw.setCell (Nat.le_refl _) _⟩
  all_goals first | (rw [World.cell?_setCell_other _ _ _ _ (by simp)]; assumption) | (go_simp; done) | (simp [*]; done) | trace_state
theorem Arr.set2 {w wr : World} {x0 x1 x2 x3 : Int} (h : Arr w wr x0 x1 x2 x3) (v : Int) : Arr w (wr.setCell ⟨w.heap.size, 2, none⟩ (.int .i64 v)) x0 x1 v x3 := by
  obtain ⟨h0, h1, h2, h3, f0, f1, f2, f3, hl, hw⟩ := h
  refine ⟨?_, ?_, ?_, ?_, ?_, ?_, ?_, ?_, ?_, hw.setCell (Nat.le_refl _) _⟩
  all_goals first | (rw [World.cell?_setCell_other _ _ _ _ (by simp)]; assumption) | (go_simp; done) | (simp [*]; done) | trace_state
theorem Arr.set3 {w wr : World} {x0 x1 x2 x3 : Int} (h : Arr w wr x0 x1 x2 x3) (v : Int) : Arr w (wr.setCell ⟨w.heap.size, 3, none⟩ (.int .i64 v)) x0 x1 x2 v := by
  obtain ⟨h0, h1, h2, h3, f0, f1, f2, f3, hl, hw⟩ := h
  refine ⟨?_, ?_, ?_, ?_, ?_, ?_, ?_, ?_, ?_, hw.setCell (Nat.le_refl _) _⟩
  all_goals first | (rw [World.cell?_setCell_other _ _ _ _ (by simp)]; assumption) | (go_simp; done) | (simp [*]; done) | trace_state
/-- What is known ahead of each mode. -/
def Upto (w : World) (e0 e1 e2 e3 l0 l1 l2 l3 : Int) (i : Value) (wr : World) : Prop :=
  (i = .int .i64 0 ∧ Arr w wr 0 0 0 0) ∨ (i = .int .i64 1 ∧ e0 = 0 ∧ Arr w wr l0 0 0 0) ∨ (i = .int .i64 2 ∧ e0 = 0 ∧ e1 = 0 ∧ Arr w wr l0 l1 0 0) ∨ (i = .int .i64 3 ∧ e0 = 0 ∧ e1 = 0 ∧ e2 = 0 ∧ Arr w wr l0 l1 l2 0) ∨ (i = .int .i64 4 ∧ e0 = 0 ∧ e1 = 0 ∧ e2 = 0 ∧ e3 = 0 ∧ Arr w wr l0 l1 l2 l3)

set_option maxHeartbeats 3200000 in
theorem modes_any (a b c n0 n1 n2 n3 e0 e1 e2 e3 : Int) (w : World) (ha : -9223372036854775808 ≤ a) (ha' : a ≤ 9223372036854775807) (hb : -9223372036854775808 ≤ b) (hb' : b ≤ 9223372036854775807) (hc : -9223372036854775808 ≤ c) (hc' : c ≤ 9223372036854775807)
    (h0 : md a b c 0 = (n0, e0)) (h1 : md a b c 1 = (n1, e1)) (h2 : md a b c 2 = (n2, e2)) (h3 : md a b c 3 = (n3, e3)) :
    Calls Try.prog 5 #[.int .i64 a, .int .i64 b, .int .i64 c] w fun e w' => e = .returned (.bool true) ∧ Below w.heap.size w w' := by
  have M0 := Lib.hid (muldiv_at h0 ha ha' hb hb' hc hc'); have M1 := Lib.hid (muldiv_at h1 ha ha' hb hb' hc hc'); have M2 := Lib.hid (muldiv_at h2 ha ha' hb hb' hc hc'); have M3 := Lib.hid (muldiv_at h3 ha ha' hb hb' hc hc')
  have R0 := md_range h0; have R1 := md_range h1; have R2 := md_range h2; have R3 := md_range h3
  have B0 : Hid (e0 ≠ 0 → n0 = 0 ∧ e0 ≠ 1) := Lib.hid (md_bad (m := 0) (by omega) h0)
  have B1 : Hid (e1 ≠ 0 → n1 = 0 ∧ e1 ≠ 1) := Lib.hid (md_bad (m := 1) (by omega) h1)
  have B2 : Hid (e2 ≠ 0 → n2 = 0 ∧ e2 ≠ 1) := Lib.hid (md_bad (m := 2) (by omega) h2)
  have B3 : Hid (e3 ≠ 0 → n3 = 0 ∧ e3 ≠ 1) := Lib.hid (md_bad (m := 3) (by omega) h3)
  have HA : Hid (e0 = 0 → e1 = 0 → e2 = 0 → e3 = 0 → _) := Lib.hid (fun k0 k1 k2 k3 => modes_apart (k0 ▸ h0) (k1 ▸ h1) (k2 ▸ h2) (k3 ▸ h3))
  clear h0 h1 h2 h3
  go_enter Try.func5, Try.ntmps5
  go_wp2_with fail
  go_loopw [16] (Upto w e0 e1 e2 e3 n0.natAbs n1.natAbs n2.natAbs n3.natAbs) (fun i _ => (4 - intOf i).toNat)
  case atStart =>
    refine .inl ⟨rfl, ?_, ?_, ?_, ?_, ?_, ?_, ?_, ?_, ?_, ?_⟩
    all_goals first | exact (Below.refl _ _).alloc (Nat.le_refl _) _ | (go_simp; done) | (simp; done) | trace_state
  case round =>
    rcases hrel with ⟨rfl, hA⟩ | ⟨rfl, rfl, hA⟩ | ⟨rfl, rfl, rfl, hA⟩ | ⟨rfl, rfl, rfl, rfl, hA⟩ | ⟨rfl, rfl, rfl, rfl, rfl, hA⟩
    · go_wp2_with fail
      refine (M0.out _).mono ?_
      rintro _ w1 ⟨rfl, b1⟩
      have hA1 := hA.on b1
      have HAA := Lib.hid hA1
      obtain ⟨c0, c1, c2, c3, f0, f1, f2, f3, hl, hw⟩ := hA1
      by_cases he : e0 = 0
      · have hb0 : (e0 != 0) = false := by rw [bne_eq_false_iff_eq]; exact he
        go_wp2_with fail
        rw [max_abs']
        exact ⟨.inr (.inl ⟨rfl, he, HAA.out.set0 _⟩), by decide⟩
      · have hb0 : (e0 != 0) = true := by rw [bne_iff_ne]; exact he
        obtain ⟨rfl, he1⟩ := B0.out he
        have hb1 : (e0 != 1) = true := by rw [bne_iff_ne]; exact he1
        go_wp2_with fail
        refine (awake_any _).mono ?_
        rintro _ w2 ⟨rfl, b2⟩
        go_wp2
        go_ret
        exact ⟨rfl, below_step hw b2⟩
    · go_wp2_with fail
      refine (M1.out _).mono ?_
      rintro _ w1 ⟨rfl, b1⟩
      have hA1 := hA.on b1
      have HAA := Lib.hid hA1
      obtain ⟨c0, c1, c2, c3, f0, f1, f2, f3, hl, hw⟩ := hA1
      by_cases he : e1 = 0
      · have hb0 : (e1 != 0) = false := by rw [bne_eq_false_iff_eq]; exact he
        go_wp2_with fail
        rw [max_abs']
        exact ⟨.inr (.inr (.inl ⟨rfl, rfl, he, HAA.out.set1 _⟩)), by decide⟩
      · have hb0 : (e1 != 0) = true := by rw [bne_iff_ne]; exact he
        obtain ⟨rfl, he1⟩ := B1.out he
        have hb1 : (e1 != 1) = true := by rw [bne_iff_ne]; exact he1
        go_wp2_with fail
        refine (awake_any _).mono ?_
        rintro _ w2 ⟨rfl, b2⟩
        go_wp2
        go_ret
        exact ⟨rfl, below_step hw b2⟩
    · go_wp2_with fail
      refine (M2.out _).mono ?_
      rintro _ w1 ⟨rfl, b1⟩
      have hA1 := hA.on b1
      have HAA := Lib.hid hA1
      obtain ⟨c0, c1, c2, c3, f0, f1, f2, f3, hl, hw⟩ := hA1
      by_cases he : e2 = 0
      · have hb0 : (e2 != 0) = false := by rw [bne_eq_false_iff_eq]; exact he
        go_wp2_with fail
        rw [max_abs']
        exact ⟨.inr (.inr (.inr (.inl ⟨rfl, rfl, rfl, he, HAA.out.set2 _⟩))), by decide⟩
      · have hb0 : (e2 != 0) = true := by rw [bne_iff_ne]; exact he
        obtain ⟨rfl, he1⟩ := B2.out he
        have hb1 : (e2 != 1) = true := by rw [bne_iff_ne]; exact he1
        go_wp2_with fail
        refine (awake_any _).mono ?_
        rintro _ w2 ⟨rfl, b2⟩
        go_wp2
        go_ret
        exact ⟨rfl, below_step hw b2⟩
    · go_wp2_with fail
      refine (M3.out _).mono ?_
      rintro _ w1 ⟨rfl, b1⟩
      have hA1 := hA.on b1
      have HAA := Lib.hid hA1
      obtain ⟨c0, c1, c2, c3, f0, f1, f2, f3, hl, hw⟩ := hA1
      by_cases he : e3 = 0
      · have hb0 : (e3 != 0) = false := by rw [bne_eq_false_iff_eq]; exact he
        go_wp2_with fail
        rw [max_abs']
        exact ⟨.inr (.inr (.inr (.inr ⟨rfl, rfl, rfl, rfl, he, HAA.out.set3 _⟩))), by decide⟩
      · have hb0 : (e3 != 0) = true := by rw [bne_iff_ne]; exact he
        obtain ⟨rfl, he1⟩ := B3.out he
        have hb1 : (e3 != 1) = true := by rw [bne_iff_ne]; exact he1
        go_wp2_with fail
        refine (awake_any _).mono ?_
        rintro _ w2 ⟨rfl, b2⟩
        go_wp2
        go_ret
        exact ⟨rfl, below_step hw b2⟩
    · obtain ⟨a1, a2, a3, a4, a5, a6, a7⟩ := HA.out rfl rfl rfl rfl
      have HAA := Lib.hid hA
      obtain ⟨c0, c1, c2, c3, f0, f1, f2, f3, hl, hw⟩ := hA
      have r0 : (n0.natAbs : Int) ≤ 9223372036854775807 := by omega
      have r1 : (n1.natAbs : Int) ≤ 9223372036854775807 := by omega
      have E7 : Hid (((n0.natAbs : Int) = (n1.natAbs : Int)) ↔ a * b = n0 * c) := Lib.hid (by rw [← a7]; omega)
      obtain ⟨L0, hL0⟩ : ∃ L : Int, (n0.natAbs : Int) = L := ⟨_, rfl⟩
      obtain ⟨L1, hL1⟩ : ∃ L : Int, (n1.natAbs : Int) = L := ⟨_, rfl⟩
      obtain ⟨L2, hL2⟩ : ∃ L : Int, (n2.natAbs : Int) = L := ⟨_, rfl⟩
      obtain ⟨L3, hL3⟩ : ∃ L : Int, (n3.natAbs : Int) = L := ⟨_, rfl⟩
      have q0 : 0 ≤ L0 := by omega
      have q1 : L0 ≤ L1 := by omega
      have q2 : L0 ≤ L2 := by omega
      have q3 : L0 ≤ L3 := by omega
      have q4 : L2 ≤ L1 := by omega
      have q5 : L3 ≤ L1 := by omega
      have q6 : L1 ≤ L0 + 1 := by omega
      rw [hL0] at c0 E7 r0 HAA
      rw [hL1] at c1 E7 r1 HAA
      rw [hL2] at c2 HAA
      rw [hL3] at c3 HAA
      clear hL0 hL1 hL2 hL3 a1 a2 a3 a4 a5 a6 a7 HA B0 B1 B2 B3
      obtain ⟨k, hk⟩ : ∃ k, Lib.compareInt (a * b) (n0 * c) = k := ⟨_, rfl⟩
      have CC := Lib.hid (wcmp_any a b n0 c · ha ha' hb hb' (by omega) (by omega) hc hc')
      rw [hk] at CC
      have HKK : Hid ((k = 0) ↔ L0 = L1) := Lib.hid (by
        rw [E7.out, ← hk]
        unfold Lib.compareInt
        (repeat' split) <;> omega)
      clear hk E7
      go_wp2_with fail
      go_loopw [50] (fun i wx => (i = .int .i64 0 ∨ i = .int .i64 1 ∨ i = .int .i64 2 ∨ i = .int .i64 3 ∨ i = .int .i64 4) ∧ wr = wx) (fun i _ => (4 - intOf i).toNat)
      case atStart => exact ⟨.inl rfl, rfl⟩
      case round =>
        obtain ⟨h, rfl⟩ := hrel
        have i0 : ∀ w, (Instr.index 37 (.agg #[.int .i64 L0, .int .i64 L1, .int .i64 L2, .int .i64 L3]) (.int .i64 0)).run Try.prog w = .ok (.int .i64 L0) w := fun _ => by kernel_rfl
        have i1 : ∀ w, (Instr.index 37 (.agg #[.int .i64 L0, .int .i64 L1, .int .i64 L2, .int .i64 L3]) (.int .i64 1)).run Try.prog w = .ok (.int .i64 L1) w := fun _ => by kernel_rfl
        have i2 : ∀ w, (Instr.index 37 (.agg #[.int .i64 L0, .int .i64 L1, .int .i64 L2, .int .i64 L3]) (.int .i64 2)).run Try.prog w = .ok (.int .i64 L2) w := fun _ => by kernel_rfl
        have i3 : ∀ w, (Instr.index 37 (.agg #[.int .i64 L0, .int .i64 L1, .int .i64 L2, .int .i64 L3]) (.int .i64 3)).run Try.prog w = .ok (.int .i64 L3) w := fun _ => by kernel_rfl
        rcases h with rfl | rfl | rfl | rfl | rfl
        · go_wp2_with fail
          exact ⟨⟨.inr (.inl rfl), by first | rfl | trivial⟩, by decide⟩
        · go_wp2_with fail
          exact ⟨⟨.inr (.inr (.inl rfl)), by first | rfl | trivial⟩, by decide⟩
        · go_wp2_with fail
          exact ⟨⟨.inr (.inr (.inr (.inl rfl))), by first | rfl | trivial⟩, by decide⟩
        · go_wp2_with fail
          exact ⟨⟨.inr (.inr (.inr (.inr rfl))), by first | rfl | trivial⟩, by decide⟩
        · clear c0 c1 c2 c3 f0 f1 f2 f3
          go_wp2_with fail
          refine (M0.out _).mono ?_
          rintro _ w1 ⟨rfl, b1⟩
          obtain ⟨c0, c1, c2, c3, f0, f1, f2, f3, hl', hw'⟩ := HAA.out.on b1
          go_wp2_with fail
          refine (CC.out _).mono ?_
          rintro _ _ ⟨rfl, rfl⟩
          by_cases hk0 : k = 0
          · have hE := HKK.out.1 hk0
            subst hk0
            subst hE
            go_wp2_with fail
            refine (awake_any _).mono ?_
            rintro _ w2 ⟨rfl, b2⟩
            go_wp2
            go_ret
            exact ⟨rfl, below_step hw' b2⟩
          · have hkb : (k == 0) = false := by rw [beq_eq_false_iff_ne]; exact hk0
            have hLb : (L0 == L1) = false := by rw [beq_eq_false_iff_ne]; exact fun h => hk0 (HKK.out.2 h)
            go_wp2_with fail
            refine (awake_any _).mono ?_
            rintro _ w2 ⟨rfl, b2⟩
            go_wp2
            go_ret
            exact ⟨rfl, below_step hw' b2⟩

theorem modes_walk (a b c : Int) (w : World) (ha : (Lit.int .i64 a).wf = true) (hb : (Lit.int .i64 b).wf = true) (hc : (Lit.int .i64 c).wf = true) :
    Calls Try.prog 5 #[.int .i64 a, .int .i64 b, .int .i64 c] w fun e w' => e = .returned (.bool true) ∧ Below w.heap.size w w' :=
  modes_any a b c _ _ _ _ _ _ _ _ w (i64_bounds ha).1 (i64_bounds ha).2 (i64_bounds hb).1 (i64_bounds hb).2 (i64_bounds hc).1 (i64_bounds hc).2 rfl rfl rfl rfl
end Go.Proofs.Ytnnhlhdijfhepaa
