/-
  WithholdYear: whatever came month by month, what is withheld is what is due of it all together.
-/
import Derived.Test.YtpfpcnfodjmgcaaGC
import Derived.Test.YtpfpcnfodjmgcaaGA
import Derived.Test.YtpfpcnfodjmgcaaRowKit
import Derived.Test.YtpfpcnfodjmgcaaGB
import Derived.Test.YtpfpcnfodjmgcaaBoxKit
import Derived.Deep.QuietTactic
import Derived.BigQuiet
namespace Go.Proofs.Ytpfpcnfodjmgcaa
open Go.RowKit

/-- What came up to that month. -/
def sumM (f : Nat → Int) : Nat → Int
  | 0 => 0
  | k + 1 => sumM f k + (f k).tmod 1099511627776
theorem tm_range (x : Int) : -1099511627776 < x.tmod 1099511627776 ∧ x.tmod 1099511627776 < 1099511627776 := by
  have h := Int.natAbs_tmod x 1099511627776
  have h2 : x.natAbs % Int.natAbs 1099511627776 < 1099511627776 := Nat.mod_lt _ (by decide)
  omega
theorem sumM_range (f : Nat → Int) (k : Nat) : -(1099511627776 * (k : Int)) ≤ sumM f k ∧ sumM f k ≤ 1099511627776 * (k : Int) := by
  induction k with
  | zero => simp [sumM]
  | succ k ih => have := tm_range (f k); simp only [sumM]; omega
theorem sumM_near (f : Nat → Int) {k : Nat} (h : k ≤ 24) : -26388279066624 ≤ sumM f k ∧ sumM f k ≤ 26388279066624 := by have := sumM_range f k; omega

set_option maxHeartbeats 3200000 in
set_option maxRecDepth 100000 in
/-- A scheme that is not right. -/
theorem lyear_wrong {A F M : Option Addr} {n ca m cf nm cm : Nat} {a r mt mb : Nat → Int} {l : List PWh.Fund} {w : World} (hA : SlP w A n a r) (hF : SlF w F m l) (hM : SlP w M nm mt mb) (h40 : n ≤ 40 ∧ m ≤ 40) (h24 : nm ≤ 24) (hR : ¬ PWh.Rt a r n l) :
    Calls Try.prog 5 #[.agg #[.slice A n ca, .slice F m cf], .slice M nm cm] w fun e w' => e = .returned (.bool true) ∧ Below w.heap.size w w' := by
  have SM := Lib.hid (fun w => small_yes (A := A) (F := F) (ca := ca) (cf := cf) w h40)
  have CS : Hid (∀ w' (t b : Int), Below w.heap.size w w' → Calls Try.prog 18 #[.agg #[.slice A n ca, .slice F m cf], .agg #[.int .i64 0, .int .i64 0, .int .i64 0, .slice none 0 0, .slice none 0 0], .int .i64 t, .int .i64 b] w' (StpR 0 0 0 [] [] 0 0 0 [] [] 1 w')) := Lib.hid (fun w' t b h => wstep_wrong (hA.on h) (hF.on h) hR)
  have CD : Hid (∀ w' (t b : Int), Below w.heap.size w w' → Calls Try.prog 11 #[.agg #[.slice A n ca, .slice F m cf], .int .i64 t, .int .i64 b] w' (YrR 0 0 0 [] [] 1 w')) := Lib.hid (fun w' t b h => wdue_wrong (hA.on h) (hF.on h) hR)
  have CR : Hid (∀ w', Below w.heap.size w w' → Calls Try.prog 14 #[.agg #[.slice A n ca, .slice F m cf]] w' fun e w'' => e = .returned (.bool false) ∧ Below w'.heap.size w' w'') := Lib.hid (fun w' h => wright_any (hA.on h) (hF.on h) ⟨fun k => (by cases k), fun k => absurd k hR⟩)
  have HM := Lib.hid hM
  have i24 : ¬ (24 : Int) < (nm : Int) := by omega
  have hmk := make_row m (by omega)
  clear hA hF hM hR h40
  go_enter Try.func5, Try.ntmps5
  go_upto_region 1 with fail
  have XS := Box.new w 25 [.slice A n ca, .slice F m cf]
  have b1 : Below w.heap.size w (w.alloc (.cells #[.slice A n ca, .slice F m cf] 25)) := (Below.refl _ _).alloc (Nat.le_refl _) _
  obtain ⟨L, hL⟩ : ∃ L, w.heap.size = L := ⟨_, rfl⟩
  rw [hL] at XS ⊢
  generalize w.alloc (.cells [.slice A n ca, .slice F m cf].toArray 25) = w1 at *
  have XS1 := Lib.hid XS; have B1 := Lib.hid b1; have HL := Lib.hid hL
  clear XS b1 hL
  obtain ⟨c0, c1⟩ := box2 XS1.out
  go_wp2_with fail
  refine (SM.out _).mono ?_
  rintro _ w2 ⟨rfl, b2⟩
  have XS2 := Lib.hid (XS1.out.on b2); have B2 := Lib.hid (below_step B1.out b2)
  clear b2 XS1 B1 c0 c1 SM
  go_upto_region 4 with fail
  obtain ⟨w3, hw3, XY, XQ, b3, hs3⟩ : ∃ w3, w2.alloc (.cells #[.int .i64 0, .int .i64 0, .int .i64 0, .slice none 0 0, .slice none 0 0] 30) = w3 ∧ Box w3 w2.heap.size [.int .i64 0, .int .i64 0, .int .i64 0, .slice none 0 0, .slice none 0 0] ∧ Box w3 L [.slice A n ca, .slice F m cf] ∧ Below w2.heap.size w2 w3 ∧ w3.heap.size = w2.heap.size + 1 := ⟨_, rfl, Box.new w2 _ _, XS2.out.alloc _, (Below.refl _ _).alloc (Nat.le_refl _) _, by simp⟩
  rw [hw3]
  obtain ⟨Y, hY⟩ : ∃ Y, w2.heap.size = Y := ⟨_, rfl⟩
  rw [hY] at XY hs3 ⊢
  have XY3 := Lib.hid XY; have XS3 := Lib.hid XQ; have B3 := Lib.hid (below_step B2.out b3)
  have HLY : Hid (L < Y) := Lib.hid (by have := XS2.out.1; omega)
  clear hw3 XY XQ b3 XS2 B2 hY
  obtain ⟨c0, c1⟩ := box2 XS3.out
  go_upto_region 6 with fail
  have b4 : Below w3.heap.size w3 (w3.alloc (.cells (madeCells #[.int .i64 0] m) 3)) := (Below.refl _ _).alloc (Nat.le_refl _) _
  have XY4 := Lib.hid (XY3.out.on b4); have XS4 := Lib.hid (XS3.out.on b4); have B4 := Lib.hid (below_step B3.out b4)
  generalize w3.alloc (.cells (madeCells #[.int .i64 0] m) 3) = w4 at *
  clear b4 XY3 XS3 B3 c0 c1 hmk hs3
  go_wp2_with fail
  go_loopw [6, 7, 8, 36] (fun x6 x7 x8 i wr => x6 = .int .i64 0 ∧ x7 = .int .i64 0 ∧ x8 = .int .i64 0 ∧ i = .int .i64 0 ∧ Hid (Below w4.heap.size w4 wr)) (fun _ _ _ _ _ => 0)
  case atStart => exact ⟨rfl, rfl, rfl, rfl, (show Hid _ from Below.refl _ _)⟩
  case round =>
    obtain ⟨rfl, rfl, rfl, rfl, HW⟩ := hrel
    have XY5 := Lib.hid (XY4.out.on HW.out); have XS5 := Lib.hid (XS4.out.on HW.out); have B5 := Lib.hid (below_step B4.out HW.out)
    clear XY4 XS4 B4
    by_cases h0 : 0 < nm
    · obtain ⟨bM, off, rfl, hc⟩ := slp_cells (HM.out.on B5.out) h0
      obtain ⟨c1, c2⟩ := hc 0 h0
      obtain ⟨t, ht⟩ : ∃ t, mt 0 = t := ⟨_, rfl⟩
      obtain ⟨b, hb⟩ : ∃ b, mb 0 = b := ⟨_, rfl⟩
      rw [ht, Nat.zero_mul, Nat.add_zero] at c1; rw [hb, Nat.zero_mul, Nat.add_zero] at c2
      have i1 : (0 : Int) < (nm : Int) := by omega
      clear hc ht hb
      go_upto_region 9 with fail
      have b6 : Below wr.heap.size wr (wr.alloc (.cells #[.int .i64 t, .int .i64 b] 49)) := (Below.refl _ _).alloc (Nat.le_refl _) _
      have XA6 := Lib.hid (Box.new wr 49 [.int .i64 t, .int .i64 b])
      have XY6 := Lib.hid (XY5.out.on b6); have XS6 := Lib.hid (XS5.out.on b6); have B6 := Lib.hid (below_step B5.out b6)
      obtain ⟨D, hD⟩ : ∃ D, wr.heap.size = D := ⟨_, rfl⟩
      rw [hD] at XA6 ⊢
      generalize wr.alloc (.cells [.int .i64 t, .int .i64 b].toArray 49) = w6 at *
      clear b6 XY5 XS5 B5 c1 c2 HW hD
      obtain ⟨a0, a1⟩ := box2 XA6.out
      go_wp2_with fail
      go_quiet (fail)
      have bq : Below w6.heap.size w6 (w6.drewN nq) := below_drewN (Below.refl _ _) _
      have XY7 := Lib.hid (XY6.out.on bq); have XS7 := Lib.hid (XS6.out.on bq); have B7 := Lib.hid (below_step B6.out bq)
      generalize w6.drewN nq = w7 at *
      clear bq XA6 XY6 XS6 B6 a0 a1
      obtain ⟨c0, c1⟩ := box2 XS7.out
      obtain ⟨y0, y1, y2, y3, y4⟩ := box5 XY7.out
      go_wp2_with fail
      refine (CS.out _ _ _ B7.out).mono ?_
      rintro _ w8 ⟨p, o, p', o', rfl, v1, v2, v3, v4, b8, -, -, -, -⟩
      obtain ⟨P5, cp5, rfl, -, -, -⟩ := v1
      obtain ⟨O5, co5, rfl, -, -, -⟩ := v2
      obtain ⟨P6, cp6, rfl, -, -, -⟩ := v3
      obtain ⟨O6, co6, rfl, -, -, -⟩ := v4
      have XS8 := Lib.hid (XS7.out.on b8); have B8 := Lib.hid (below_step B7.out b8)
      clear b8 c0 c1 y0 y1 y2 y3 y4 XS7 XY7 B7
      unfold yrV
      go_upto_region 11 with fail
      obtain ⟨w9, hw9, XZ, XM, b9, hs9⟩ := enter2 w8 30 30 [.int .i64 0, .int .i64 0, .int .i64 0, .slice P5 0 cp5, .slice O5 0 co5] [.int .i64 0, .int .i64 0, .int .i64 0, .slice P6 0 cp6, .slice O6 0 co6]
      (try simp only [List.length_nil])
      rw [hw9]
      have XS9 := Lib.hid (XS8.out.on b9); have B9 := Lib.hid (below_step B8.out b9)
      clear hw9 XZ XM b9 hs9 XS8 B8
      obtain ⟨c0, c1⟩ := box2 XS9.out
      go_wp2_with fail
      refine (CR.out _ B9.out).mono ?_
      rintro _ w10 ⟨rfl, b10⟩
      have B10 := Lib.hid (below_step B9.out b10)
      clear b10 c0 c1
      go_wp2_with fail
      refine (awake_any _).mono ?_
      rintro _ w11 ⟨rfl, b11⟩
      have B11 := Lib.hid (below_step B10.out b11)
      clear b11
      go_wp2_with fail
      go_ret
      exact ⟨rfl, B11.out⟩
    · obtain rfl : nm = 0 := by omega
      obtain ⟨c0, c1⟩ := box2 XS5.out
      go_wp2_with fail
      refine (CD.out _ _ _ B5.out).mono ?_
      rintro _ w8 ⟨p, o, rfl, v1, v2, b8, -, -⟩
      obtain ⟨P5, cp5, rfl, -, -, -⟩ := v1
      obtain ⟨O5, co5, rfl, -, -, -⟩ := v2
      have B8 := Lib.hid (below_step B5.out b8)
      clear b8 c0 c1
      unfold yrV
      go_upto_region 26 with fail
      have b9 : Below w8.heap.size w8 (w8.alloc (.cells #[.int .i64 0, .int .i64 0, .int .i64 0, .slice P5 0 cp5, .slice O5 0 co5] 30)) := (Below.refl _ _).alloc (Nat.le_refl _) _
      have B9 := Lib.hid (below_step B8.out b9)
      (try simp only [List.length_nil])
      generalize w8.alloc (.cells #[.int .i64 0, .int .i64 0, .int .i64 0, .slice P5 0 cp5, .slice O5 0 co5] 30) = w9 at *
      clear b9 B8
      go_wp2_with fail
      refine (awake_any _).mono ?_
      rintro _ w11 ⟨rfl, b11⟩
      have B11 := Lib.hid (below_step B9.out b11)
      clear b11
      go_wp2_with fail
      go_ret
      exact ⟨rfl, B11.out⟩
/-- What the year's lists are, at that month. -/
def YrI (l : List PWh.Fund) (B : Int) (m k np no : Nat) (lp lo : List Int) : Prop := (k = 0 ∧ np = 0 ∧ no = 0 ∧ lp = [] ∧ lo = [] ∧ B = 0) ∨ (0 < k ∧ np = m ∧ no = m ∧ lp = PWh.paid l B ∧ lo = PWh.owed l B)
theorem paid_zero {l : List PWh.Fund} (h : PWh.OkTo l l.length) (i : Nat) : (PWh.paid l 0).getD i 0 = 0 := by
  by_cases hi : i < l.length
  · rw [PWh.paid_at hi, PWh.part_low (Int.le_refl 0) (h i hi hi).2.2]; rfl
  · have : (PWh.paid l 0).length ≤ i := by rw [PWh.paid_len]; omega
    simp [List.getD, List.getElem?_eq_none this]
theorem YrI.old {l : List PWh.Fund} {B : Int} {m k np no : Nat} {lp lo : List Int} (h : YrI l B m k np no lp lo) (hO : PWh.OkTo l l.length) (i : Nat) : lp.getD i 0 = (PWh.paid l B).getD i 0 := by
  rcases h with ⟨_, _, _, rfl, _, rfl⟩ | ⟨_, _, _, rfl, _⟩
  · rw [paid_zero hO]; simp
  · rfl
theorem paid_range {l : List PWh.Fund} (h : PWh.OkTo l l.length) {b : Int} (hb : b ≤ 26388279066624) (i : Nat) : 0 ≤ (PWh.paid l b).getD i 0 ∧ (PWh.paid l b).getD i 0 ≤ 26388279066624 := by
  by_cases hi : i < l.length
  · rw [PWh.paid_at hi]
    refine ⟨by omega, ?_⟩
    by_cases h0 : 0 ≤ b
    · have := PWh.part_below (b := b) (h i hi hi).1.2 h0 (h i hi hi).2.2; omega
    · rw [PWh.part_low (by omega) (h i hi hi).2.2]; omega
  · have : (PWh.paid l b).length ≤ i := by rw [PWh.paid_len]; omega
    simp [List.getD, List.getElem?_eq_none this]
theorem tax_upto {a r : Nat → Int} {n : Nat} {t : Int} (h : PBr.Rt a r n) : ((PBr.tax a r n t : Nat) : Int) ≤ max t 0 := by
  by_cases h0 : 0 ≤ t
  · have := PBr.tax_le h h0; omega
  · rw [PBr.tax_low h (by omega)]; omega

/-- A step of the year: what it answers. -/
def StpS (m : Nat) (T B : Int) (X : Nat) (t b : Int) (Z : Int) (lp lo lq : List Int) (w : World) (e : Ending) (w' : World) : Prop := ∃ P5 c5 O5 d5 P6 c6 O6 d6, e = .returned (.tuple #[.agg #[.int .i64 T, .int .i64 B, .int .i64 (X : Int), .slice P5 m c5, .slice O5 m d5], .agg #[.int .i64 t, .int .i64 b, .int .i64 Z, .slice P6 m c6, .slice O6 m d6], .int .i64 0]) ∧
  VSl w' (.slice P5 m c5) lp ∧ VSl w' (.slice O5 m d5) lo ∧ VSl w' (.slice P6 m c6) lq ∧ Below w.heap.size w w' ∧ Fresh w (.slice P5 m c5) ∧ Fresh w (.slice O5 m d5) ∧ Fresh w (.slice P6 m c6)
theorem year_step {A F P O : Option Addr} {n ca m cf np cp no co k : Nat} {a r : Nat → Int} {l : List PWh.Fund} {w : World} {T B t b : Int} {lp lo : List Int} (hA : SlP w A n a r) (hF : SlF w F m l) (hR : PWh.Rt a r n l) (hI : YrI l B m k np no lp lo) (hp : VSl w (.slice P np cp) lp) (ho : VSl w (.slice O no co) lo)
    (hT : -26388279066624 ≤ T ∧ T ≤ 26388279066624) (hB : -26388279066624 ≤ B ∧ B ≤ 26388279066624) (hT2 : -26388279066624 ≤ T + t ∧ T + t ≤ 26388279066624) (hB2 : -26388279066624 ≤ B + b ∧ B + b ≤ 26388279066624) :
    Calls Try.prog 18 #[.agg #[.slice A n ca, .slice F m cf], .agg #[.int .i64 T, .int .i64 B, .int .i64 (PBr.tax a r n T : Nat), .slice P np cp, .slice O no co], .int .i64 t, .int .i64 b] w (StpS m (T + t) (B + b) (PBr.tax a r n (T + t)) t b ((PBr.tax a r n (T + t) : Nat) - (PBr.tax a r n T : Nat)) (PWh.paid l (B + b)) (PWh.owed l (B + b)) (PWh.less (PWh.paid l (B + b)) lp) w) := by
  have hm : l.length = m := hF.len
  have hx : (np = 0 ∨ np = m) ∧ (no = 0 ∨ no = m) := by rcases hI with h | h <;> omega
  have mx : PBr.tax a r n T ≤ 1125899906842624 := tax_mid hR.1 (by omega)
  have h1 : PWh.MidL lp := by
    rcases hI with ⟨_, _, _, rfl, _⟩ | ⟨_, _, _, rfl, _⟩
    · intro i hi; simp at hi
    · exact midl_paid hR.2.2 (by omega)
  have h2 : PWh.MidL lo := by
    rcases hI with ⟨_, _, _, _, rfl, _⟩ | ⟨_, _, _, _, rfl⟩
    · intro i hi; simp at hi
    · exact midl_owed hR.2.2 (by omega)
  have hn : Near6 T B t b := by unfold Near6 Nr; omega
  refine (wstep_yes hA hF hR hn hx hp ho (by unfold PWh.Mid; omega) h1 h2).mono ?_
  rintro e w' ⟨p, o, p', o', rfl, v1, v2, v3, v4, hb, f1, f2, f3, f4⟩
  have V1 := v1; have V2 := v2; have V3 := v3
  obtain ⟨P5, c5, rfl, -, -, -⟩ := v1
  obtain ⟨O5, d5, rfl, -, -, -⟩ := v2
  obtain ⟨P6, c6, rfl, -, -, -⟩ := v3
  obtain ⟨O6, d6, rfl, -, -, -⟩ := v4
  rw [PWh.paid_len, hm] at V1 f1
  rw [PWh.owed_len, hm] at V2 f2
  rw [PWh.less_len, PWh.paid_len, hm] at V3 f3
  refine ⟨P5, c5, O5, d5, P6, c6, O6, d6, ?_, V1, V2, V3, hb, f1, f2, f3⟩
  rw [PWh.less_len, PWh.less_len, PWh.paid_len, PWh.owed_len, hm]
  rfl
/-- What is due of the year. -/
def DueS (m : Nat) (T B : Int) (X : Nat) (lp lo : List Int) (w : World) (e : Ending) (w' : World) : Prop := ∃ P5 c5 O5 d5, e = .returned (.tuple #[.agg #[.int .i64 T, .int .i64 B, .int .i64 (X : Int), .slice P5 m c5, .slice O5 m d5], .int .i64 0]) ∧ VSl w' (.slice P5 m c5) lp ∧ VSl w' (.slice O5 m d5) lo ∧ Below w.heap.size w w'
theorem year_due {A F : Option Addr} {n ca m cf : Nat} {a r : Nat → Int} {l : List PWh.Fund} {w : World} {T B : Int} (hA : SlP w A n a r) (hF : SlF w F m l) (hR : PWh.Rt a r n l)
    (hT : -26388279066624 ≤ T ∧ T ≤ 26388279066624) (hB : -26388279066624 ≤ B ∧ B ≤ 26388279066624) :
    Calls Try.prog 11 #[.agg #[.slice A n ca, .slice F m cf], .int .i64 T, .int .i64 B] w (DueS m T B (PBr.tax a r n T) (PWh.paid l B) (PWh.owed l B) w) := by
  have hm : l.length = m := hF.len
  refine (wdue_yes hA hF hR (by unfold Nr; omega) (by unfold Nr; omega)).mono ?_
  rintro e w' ⟨p, o, rfl, v1, v2, hb, -, -⟩
  have V1 := v1; have V2 := v2
  obtain ⟨P5, c5, rfl, -, -, -⟩ := v1
  obtain ⟨O5, d5, rfl, -, -, -⟩ := v2
  rw [PWh.paid_len, hm] at V1
  rw [PWh.owed_len, hm] at V2
  refine ⟨P5, c5, O5, d5, ?_, V1, V2, hb⟩
  rw [PWh.paid_len, PWh.owed_len, hm]
  rfl
theorem Only.drew {H : Nat} {w w' : World} (h : Only H w w') : Only H w w'.drew := ⟨h.size, h.cell, h.frozen, fun hB hb => (h.below hB hb).drew⟩
theorem rw_only {w w' : World} {H K N : Nat} {l : List Int} (h : Rw w K N l) (ho : Only H w w') (hk : K ≠ H) : Rw w' K N l :=
  ⟨h.1, fun t ht => ⟨by rw [ho.cell _ hk]; exact (h.2 t ht).1, by rw [ho.frozen]; exact (h.2 t ht).2⟩⟩
theorem vsl_only {w w' : World} {H : Nat} {v : Value} {l : List Int} (h : VSl w v l) (ho : Only H w w') (hne : ∀ ad n c, v = .slice (some ad) n c → ad.block ≠ H) : VSl w' v l := by
  obtain ⟨P, cp, rfl, h1, h2, h3, h4, h5, h6⟩ := h
  refine ⟨P, cp, rfl, h1, h2, h3, h4, h5, ?_⟩
  rcases h6 with h6 | ⟨b, off, rfl, h7⟩
  · exact .inl h6
  · exact .inr ⟨b, off, rfl, fun k hk => by rw [ho.cell ⟨b, off + k, none⟩ (show b ≠ H from hne ⟨b, off, none⟩ _ _ rfl)]; exact h7 k hk⟩
set_option maxHeartbeats 6400000 in
set_option maxRecDepth 100000 in
/-- A scheme that is right. -/
theorem lyear_yes {A F M : Option Addr} {n ca m cf nm cm : Nat} {a r mt mb : Nat → Int} {l : List PWh.Fund} {w : World} (hA : SlP w A n a r) (hF : SlF w F m l) (hM : SlP w M nm mt mb) (h40 : n ≤ 40 ∧ m ≤ 40) (h24 : nm ≤ 24) (hR : PWh.Rt a r n l) :
    Calls Try.prog 5 #[.agg #[.slice A n ca, .slice F m cf], .slice M nm cm] w fun e w' => e = .returned (.bool true) ∧ Below w.heap.size w w' := by
  have SM := Lib.hid (fun w => small_yes (A := A) (F := F) (ca := ca) (cf := cf) w h40)
  have CS : Hid (∀ w' (T B t b T' B' Z : Int) (X X' : Nat) (P O : Option Addr) (np cp no co k : Nat) (lp lo : List Int), Below w.heap.size w w' → YrI l B m k np no lp lo → VSl w' (.slice P np cp) lp → VSl w' (.slice O no co) lo → PBr.tax a r n T = X → PBr.tax a r n T' = X' → T + t = T' → B + b = B' → (X' : Int) - (X : Int) = Z →
      (-26388279066624 ≤ T ∧ T ≤ 26388279066624) → (-26388279066624 ≤ B ∧ B ≤ 26388279066624) → (-26388279066624 ≤ T' ∧ T' ≤ 26388279066624) → (-26388279066624 ≤ B' ∧ B' ≤ 26388279066624) →
      Calls Try.prog 18 #[.agg #[.slice A n ca, .slice F m cf], .agg #[.int .i64 T, .int .i64 B, .int .i64 (X : Int), .slice P np cp, .slice O no co], .int .i64 t, .int .i64 b] w' (StpS m T' B' X' t b Z (PWh.paid l B') (PWh.owed l B') (PWh.less (PWh.paid l B') lp) w')) := Lib.hid (fun w' T B t b T' B' Z X X' P O np cp no co k lp lo h hI hp ho hX hX' hT hB hZ g1 g2 g3 g4 => by
    subst hT; subst hB; subst hX; subst hX'; subst hZ
    exact year_step (hA.on h) (hF.on h) hR hI hp ho g1 g2 g3 g4)
  have CD : Hid (∀ w' (T B : Int), Below w.heap.size w w' → (-26388279066624 ≤ T ∧ T ≤ 26388279066624) → (-26388279066624 ≤ B ∧ B ≤ 26388279066624) → Calls Try.prog 11 #[.agg #[.slice A n ca, .slice F m cf], .int .i64 T, .int .i64 B] w' (DueS m T B (PBr.tax a r n T) (PWh.paid l B) (PWh.owed l B) w')) := Lib.hid (fun w' T B h g1 g2 => year_due (hA.on h) (hF.on h) hR g1 g2)
  have HM := Lib.hid hM
  have HR := Lib.hid hR
  have hl := Lib.hid hF.len
  have hm40 : m ≤ 40 := h40.2
  have i24 : ¬ (24 : Int) < (nm : Int) := by omega
  have hmk := make_row m (by omega)
  clear hA hF hM hR h40
  go_enter Try.func5, Try.ntmps5
  go_upto_region 1 with fail
  have XS := Box.new w 25 [.slice A n ca, .slice F m cf]
  have b1 : Below w.heap.size w (w.alloc (.cells #[.slice A n ca, .slice F m cf] 25)) := (Below.refl _ _).alloc (Nat.le_refl _) _
  obtain ⟨L, hL⟩ : ∃ L, w.heap.size = L := ⟨_, rfl⟩
  rw [hL] at XS ⊢
  generalize w.alloc (.cells [.slice A n ca, .slice F m cf].toArray 25) = w1 at *
  have XS1 := Lib.hid XS; have B1 := Lib.hid b1; have HL := Lib.hid hL
  clear XS b1 hL
  obtain ⟨c0, c1⟩ := box2 XS1.out
  go_wp2_with fail
  refine (SM.out _).mono ?_
  rintro _ w2 ⟨rfl, b2⟩
  have XS2 := Lib.hid (XS1.out.on b2); have B2 := Lib.hid (below_step B1.out b2)
  clear b2 XS1 B1 c0 c1 SM
  go_upto_region 4 with fail
  obtain ⟨w3, hw3, XY, XQ, b3, hs3⟩ : ∃ w3, w2.alloc (.cells #[.int .i64 0, .int .i64 0, .int .i64 0, .slice none 0 0, .slice none 0 0] 30) = w3 ∧ Box w3 w2.heap.size [.int .i64 0, .int .i64 0, .int .i64 0, .slice none 0 0, .slice none 0 0] ∧ Box w3 L [.slice A n ca, .slice F m cf] ∧ Below w2.heap.size w2 w3 ∧ w3.heap.size = w2.heap.size + 1 := ⟨_, rfl, Box.new w2 _ _, XS2.out.alloc _, (Below.refl _ _).alloc (Nat.le_refl _) _, by simp⟩
  rw [hw3]
  obtain ⟨Y, hY⟩ : ∃ Y, w2.heap.size = Y := ⟨_, rfl⟩
  have HwY : Hid (w.heap.size ≤ Y) := Lib.hid (by rw [← hY]; exact B2.out.size)
  rw [hY] at XY hs3 ⊢
  have XY3 := Lib.hid XY; have XS3 := Lib.hid XQ; have B3 := Lib.hid (below_step B2.out b3)
  have HLY : Hid (L < Y) := Lib.hid (by have := XS2.out.1; omega)
  clear hw3 XY XQ b3 XS2 B2 hY
  obtain ⟨c0, c1⟩ := box2 XS3.out
  go_upto_region 6 with fail
  have b4 : Below w3.heap.size w3 (w3.alloc (.cells (madeCells #[.int .i64 0] m) 3)) := (Below.refl _ _).alloc (Nat.le_refl _) _
  have XY4 := Lib.hid (XY3.out.on b4); have XS4 := Lib.hid (XS3.out.on b4); have B4 := Lib.hid (below_step B3.out b4)
  have RQ4 : Hid (Rw (w3.alloc (.cells (madeCells #[.int .i64 0] m) 3)) (Y + 1) m (List.replicate m 0)) := Lib.hid (by rw [← hs3]; exact Rw.of_row (made_row w3 _ m rfl (by omega)) List.length_replicate)
  have HQ4 : Hid (Y + 1 < (w3.alloc (.cells (madeCells #[.int .i64 0] m) 3)).heap.size) := Lib.hid (by simp [hs3])
  generalize w3.alloc (.cells (madeCells #[.int .i64 0] m) 3) = w4 at *
  clear b4 XY3 XS3 B3 c0 c1 hmk hs3
  go_wp2_with fail
  go_loopw [6, 7, 8, 36] (fun x6 x7 x8 i wr => ∃ (k np cp no co X : Nat) (T B : Int) (P O : Option Addr) (lp lo q : List Int), k ≤ nm ∧ x6 = .int .i64 T ∧ x7 = .int .i64 B ∧ x8 = .int .i64 (X : Int) ∧ i = .int .i64 k ∧
      Hid (sumM mt k = T ∧ sumM mb k = B ∧ PBr.tax a r n T = X) ∧ Hid (YrI l B m k np no lp lo) ∧ Hid (Box wr Y [.int .i64 T, .int .i64 B, .int .i64 (X : Int), .slice P np cp, .slice O no co]) ∧ Hid (VSl wr (.slice P np cp) lp) ∧ Hid (VSl wr (.slice O no co) lo) ∧
      Hid (Rw wr (Y + 1) m q) ∧ Hid (∀ i, i < m → q.getD i 0 = (PWh.paid l B).getD i 0) ∧ Hid (Y + 1 < wr.heap.size) ∧ Hid (Box wr L [.slice A n ca, .slice F m cf]) ∧ Hid (Below w.heap.size w wr)) (fun _ _ _ i _ => nm - (intOf i).toNat)
  case atStart => exact ⟨0, 0, 0, 0, 0, 0, 0, 0, none, none, [], [], _, Nat.zero_le _, rfl, rfl, rfl, rfl, (show Hid _ from ⟨rfl, rfl, PBr.tax_low HR.out.1 (Int.le_refl 0)⟩), (show Hid _ from .inl ⟨rfl, rfl, rfl, rfl, rfl, rfl⟩), XY4, (show Hid _ from vsl_nil _), (show Hid _ from vsl_nil _), RQ4, (show Hid _ from fun i hi => by rw [paid_zero HR.out.2.2]; simp [List.getD, hi]), HQ4, XS4, B4⟩
  case round =>
    clear XY4 XS4 B4 RQ4 HQ4
    obtain ⟨k, np, cp, no, co, X, T, B, P, O, lp, lo, q, hk, rfl, rfl, rfl, rfl, HE, HI, XY5, VP, VO, RQ, HQ, HS, XS5, B5⟩ := hrel
    by_cases hlt : k < nm
    · obtain ⟨bM, off, rfl, hc⟩ := slp_cells (HM.out.on B5.out) hlt
      obtain ⟨c1, c2⟩ := hc k hlt
      obtain ⟨u, hu⟩ : ∃ u, mt k = u := ⟨_, rfl⟩
      obtain ⟨v, hv⟩ : ∃ v, mb k = v := ⟨_, rfl⟩
      rw [hu] at c1; rw [hv] at c2
      obtain ⟨t, ht⟩ : ∃ t, u.tmod 1099511627776 = t := ⟨_, rfl⟩
      obtain ⟨b, hb⟩ : ∃ b, v.tmod 1099511627776 = b := ⟨_, rfl⟩
      have HT' : Hid (sumM mt (k + 1) = T + t) := Lib.hid (by simp only [sumM]; rw [HE.out.1, hu, ht])
      have HB' : Hid (sumM mb (k + 1) = B + b) := Lib.hid (by simp only [sumM]; rw [HE.out.2.1, hv, hb])
      have i1 : (0 : Int) ≤ (k : Int) := by omega
      have i2 : (k : Int) < (nm : Int) := by omega
      clear hc hu hv
      go_upto_region 9 with fail
      have b6 : Below wr.heap.size wr (wr.alloc (.cells #[.int .i64 u, .int .i64 v] 49)) := (Below.refl _ _).alloc (Nat.le_refl _) _
      have XA6 := Lib.hid (Box.new wr 49 [.int .i64 u, .int .i64 v])
      have XY6 := Lib.hid (XY5.out.on b6); have XS6 := Lib.hid (XS5.out.on b6); have B6 := Lib.hid (below_step B5.out b6); have RQ6 := Lib.hid (RQ.out.on b6); have HS6 := Lib.hid (Nat.lt_of_lt_of_le HS.out b6.size)
      have VP6 := Lib.hid (VP.out.on b6); have VO6 := Lib.hid (VO.out.on b6)
      obtain ⟨D, hD⟩ : ∃ D, wr.heap.size = D := ⟨_, rfl⟩
      rw [hD] at XA6 ⊢
      generalize wr.alloc (.cells [.int .i64 u, .int .i64 v].toArray 49) = w6 at *
      clear b6 XY5 XS5 B5 c1 c2 hD RQ HS VP VO
      obtain ⟨a0, a1⟩ := box2 XA6.out
      have wt : IntKind.i64.wrap t = t := by rw [IntKind.wrap_i64]; have := tm_range u; omega
      have wb : IntKind.i64.wrap b = b := by rw [IntKind.wrap_i64]; have := tm_range v; omega
      go_wp2_with fail
      go_quiet (fail)
      have bq : Below w6.heap.size w6 (w6.drewN nq) := below_drewN (Below.refl _ _) _
      have XY7 := Lib.hid (XY6.out.on bq); have XS7 := Lib.hid (XS6.out.on bq); have B7 := Lib.hid (below_step B6.out bq); have RQ7 := Lib.hid (RQ6.out.on bq); have HS7 := Lib.hid (Nat.lt_of_lt_of_le HS6.out bq.size)
      have VP7 := Lib.hid (VP6.out.on bq); have VO7 := Lib.hid (VO6.out.on bq)
      generalize w6.drewN nq = w7 at *
      clear bq XA6 XY6 XS6 B6 RQ6 HS6 VP6 VO6 a0 a1 wt wb
      obtain ⟨c0, c1⟩ := box2 XS7.out
      obtain ⟨y0, y1, y2, y3, y4⟩ := box5 XY7.out
      obtain ⟨T', hT'⟩ : ∃ T', T + t = T' := ⟨_, rfl⟩
      obtain ⟨B', hB'⟩ : ∃ B', B + b = B' := ⟨_, rfl⟩
      obtain ⟨X', hX'⟩ : ∃ X', PBr.tax a r n T' = X' := ⟨_, rfl⟩
      obtain ⟨Z, hZ⟩ : ∃ Z, (X' : Int) - (X : Int) = Z := ⟨_, rfl⟩
      rw [hT'] at HT'; rw [hB'] at HB'
      have rT : -26388279066624 ≤ T ∧ T ≤ 26388279066624 := by rw [← HE.out.1]; exact sumM_near mt (by omega)
      have rB : -26388279066624 ≤ B ∧ B ≤ 26388279066624 := by rw [← HE.out.2.1]; exact sumM_near mb (by omega)
      have rT' : -26388279066624 ≤ T' ∧ T' ≤ 26388279066624 := by rw [← HT'.out]; exact sumM_near mt (by omega)
      have rB' : -26388279066624 ≤ B' ∧ B' ≤ 26388279066624 := by rw [← HB'.out]; exact sumM_near mb (by omega)
      have C7 := Lib.hid (CS.out w7 T B t b T' B' Z X X' P O np cp no co k lp lo B7.out HI.out VP7.out VO7.out HE.out.2.2 hX' hT' hB' hZ rT rB rT' rB')
      have HHT := Lib.hid hT'; have HHB := Lib.hid hB'; have HX' := Lib.hid hX'; have HHZ := Lib.hid hZ
      clear hT' hB' hX' hZ
      go_wp2_with fail
      refine C7.out.mono ?_
      rintro _ w8 ⟨P5, c5, O5, d5, P6, c6, O6, d6, rfl, v1, v2, v3, b8, f1, f2, f3⟩
      have XS8 := Lib.hid (XS7.out.on b8); have B8 := Lib.hid (below_step B7.out b8); have XY8 := Lib.hid (XY7.out.on b8); have RQ8 := Lib.hid (RQ7.out.on b8); have HS8 := Lib.hid (Nat.lt_of_lt_of_le HS7.out b8.size)
      have N5 : Hid (∀ ad n c, (.slice P5 m c5 : Value) = .slice (some ad) n c → Y + 1 < ad.block) := Lib.hid (fun ad n c e => Nat.lt_of_lt_of_le HS7.out (f1 ad n c e))
      have N6 : Hid (∀ ad n c, (.slice O5 m d5 : Value) = .slice (some ad) n c → Y + 1 < ad.block) := Lib.hid (fun ad n c e => Nat.lt_of_lt_of_le HS7.out (f2 ad n c e))
      have N7 : Hid (∀ ad n c, (.slice P6 m c6 : Value) = .slice (some ad) n c → Y + 1 < ad.block) := Lib.hid (fun ad n c e => Nat.lt_of_lt_of_le HS7.out (f3 ad n c e))
      have V1 := Lib.hid v1; have V2 := Lib.hid v2; have V3 := Lib.hid v3
      clear b8 c0 c1 y0 y1 y2 y3 y4 XS7 XY7 B7 RQ7 HS7 VP7 VO7 v1 v2 v3 f1 f2 f3 C7 CS
      go_upto_region 11 with fail
      obtain ⟨w9, hw9, XZ, XM, b9, hs9⟩ := enter2 w8 30 30 [.int .i64 T', .int .i64 B', .int .i64 (X' : Int), .slice P5 m c5, .slice O5 m d5] [.int .i64 t, .int .i64 b, .int .i64 Z, .slice P6 m c6, .slice O6 m d6]
      rw [hw9]
      obtain ⟨G, hG⟩ : ∃ G, w8.heap.size = G := ⟨_, rfl⟩
      rw [hG] at XZ XM ⊢
      have HYG : Hid (Y + 1 < G) := Lib.hid (by rw [← hG]; exact HS8.out)
      have XZ9 := Lib.hid XZ; have XM9 := Lib.hid XM
      have XS9 := Lib.hid (XS8.out.on b9); have B9 := Lib.hid (below_step B8.out b9); have XY9 := Lib.hid (XY8.out.on b9); have RQ9 := Lib.hid (RQ8.out.on b9); have HS9 := Lib.hid (Nat.lt_of_lt_of_le HS8.out b9.size)
      have V19 := Lib.hid (V1.out.on b9); have V29 := Lib.hid (V2.out.on b9); have V39 := Lib.hid (V3.out.on b9)
      clear hw9 XZ XM b9 hs9 XS8 B8 XY8 RQ8 HS8 V1 V2 V3 hG
      obtain ⟨m0, m1, m2, m3, m4⟩ := box5 XM9.out
      have e1 : IntKind.i64.wrap (T + t) = T' := by rw [IntKind.wrap_i64]; have := HHT.out; omega
      have e2 : IntKind.i64.wrap (B + b) = B' := by rw [IntKind.wrap_i64]; have := HHB.out; omega
      have hmx : (X' : Int) ≤ max T' 0 := by rw [← HX'.out]; exact tax_upto HR.out.1
      have e3 : IntKind.i64.wrap ((X : Int) + Z) = (X' : Int) := by rw [IntKind.wrap_i64]; have := HHZ.out; omega
      have HMX := Lib.hid hmx
      clear hmx
      go_wp2_with fail
      go_quiet (fail)
      have bq : Below w9.heap.size w9 (w9.drewN nq) := below_drewN (Below.refl _ _) _
      have XZa := Lib.hid (XZ9.out.on bq); have XMa := Lib.hid (XM9.out.on bq); have XSa := Lib.hid (XS9.out.on bq); have Ba := Lib.hid (below_step B9.out bq); have XYa := Lib.hid (XY9.out.on bq); have RQa := Lib.hid (RQ9.out.on bq); have HSa := Lib.hid (Nat.lt_of_lt_of_le HS9.out bq.size)
      have V1a := Lib.hid (V19.out.on bq); have V2a := Lib.hid (V29.out.on bq); have V3a := Lib.hid (V39.out.on bq)
      generalize w9.drewN nq = wa at *
      clear bq XZ9 XM9 XS9 B9 XY9 RQ9 HS9 V19 V29 V39 m0 m1 m2 m3 m4 e1 e2 e3
      obtain ⟨m0, m1, m2, m3, m4⟩ := box5 XMa.out
      have gm : ((m : Int) != (m : Int)) = false := bne_self_eq_false _
      have gx : ¬ (X' : Int) < 0 := by omega
      have gmx : ¬ max T' 0 < (X' : Int) := by have := HMX.out; omega
      go_wp2_with fail
      clear gm gx gmx
      have HOL : Hid (∀ i, lp.getD i 0 = (PWh.paid l B).getD i 0) := Lib.hid (fun i => HI.out.old HR.out.2.2 i)
      have HPR : Hid (∀ i, 0 ≤ (PWh.paid l B').getD i 0 ∧ (PWh.paid l B').getD i 0 ≤ 26388279066624) := Lib.hid (fun i => paid_range HR.out.2.2 rB'.2 i)
      have HPO : Hid (∀ i, 0 ≤ (PWh.paid l B).getD i 0 ∧ (PWh.paid l B).getD i 0 ≤ 26388279066624) := Lib.hid (fun i => paid_range HR.out.2.2 rB.2 i)
      have HLE : Hid ((PWh.paid l B').length = m) := Lib.hid (by rw [PWh.paid_len, hl.out])
      go_loopw [95] (fun i wy => ∃ (j : Nat) (q2 : List Int), j ≤ m ∧ i = .int .i64 j ∧ Hid (Rw wy (Y + 1) m q2) ∧ Hid (∀ i, i < m → q2.getD i 0 = if i < j then (PWh.paid l B').getD i 0 else (PWh.paid l B).getD i 0) ∧ Hid (Only (Y + 1) wa wy)) (fun i _ => m - (intOf i).toNat)
      case atStart => exact ⟨0, q, Nat.zero_le _, rfl, RQa, (show Hid _ from fun i hi => by rw [if_neg (by omega)]; exact HQ.out i hi), (show Hid _ from Only.refl _ _)⟩
      case round =>
        obtain ⟨j, q2, hj, rfl, R2, Q2, O2⟩ := hrel
        have XM2 := Lib.hid (XMa.out.only O2.out (by have := HYG.out; omega))
        have V32 := Lib.hid (vsl_only V3a.out O2.out (fun ad n c e => by have := N7.out ad n c e; omega))
        clear m0 m1 m2 m3 m4
        obtain ⟨m0, m1, m2, m3, m4⟩ := box5 XM2.out
        by_cases hjt : j < m
        · have c1 := (R2.out.2 j hjt).1
          have c2 := (R2.out.2 j hjt).2
          have V4 := V32.out
          obtain ⟨P6', c6', eP, -, -, s6⟩ := V4
          injection eP with eP1 eP2 eP3
          obtain ⟨b6, off6, rfl, hc⟩ := sl_cell s6 (show j < _ by rw [← eP2]; exact hjt)
          subst eP1
          have c3 := hc j (by rw [← eP2]; exact hjt)
          rw [PWh.less_at (by rw [HLE.out]; exact hjt), HOL.out] at c3
          rw [Q2.out j hjt, if_neg (by omega)] at c1
          obtain ⟨o1, ho1⟩ : ∃ o1, (PWh.paid l B).getD j 0 = o1 := ⟨_, rfl⟩
          obtain ⟨o2, ho2⟩ : ∃ o2, (PWh.paid l B').getD j 0 = o2 := ⟨_, rfl⟩
          rw [ho1] at c1 c3; rw [ho2] at c3
          have r1 := HPO.out j; have r2 := HPR.out j
          rw [ho1] at r1; rw [ho2] at r2
          have e4 : IntKind.i64.wrap (o1 + (o2 - o1)) = o2 := by rw [IntKind.wrap_i64]; omega
          have HO2 := Lib.hid ho2
          have g1 : ¬ o2 < 0 := by omega
          have i3 : (0 : Int) ≤ (j : Int) := by omega
          have i4 : (j : Int) < (m : Int) := by omega
          clear hc s6 ho1 ho2 eP2 eP3 r1 r2
          go_upto_region 19 with fail
          go_region
          have R3 : Hid (Rw (wr.setCell ⟨Y + 1, j, none⟩ (.int .i64 o2)).drew (Y + 1) m (q2.set j o2)) := Lib.hid ((R2.out.set hjt o2).on (Below.refl _ _).drew)
          have O3 : Hid (Only (Y + 1) wa (wr.setCell ⟨Y + 1, j, none⟩ (.int .i64 o2)).drew) := Lib.hid ((O2.out.set j _).drew)
          have Q3 : Hid (∀ i, i < m → (q2.set j o2).getD i 0 = if i < j + 1 then (PWh.paid l B').getD i 0 else (PWh.paid l B).getD i 0) := Lib.hid (fun i hi => by
            rw [set_get R2.out.1 hjt]
            by_cases e : i = j
            · subst e; rw [if_pos rfl, if_pos (by omega), HO2.out]
            · rw [if_neg e, Q2.out i hi]
              by_cases h : i < j
              · rw [if_pos h, if_pos (by omega)]
              · rw [if_neg h, if_neg (by omega)])
          clear c1 c2 m3
          generalize (wr.setCell ⟨Y + 1, j, none⟩ (.int .i64 o2)).drew = wz at *
          have c1 := (R3.out.2 j hjt).1
          rw [set_get R2.out.1 hjt, if_pos rfl] at c1
          go_wp2_with fail
          exact ⟨⟨j + 1, _, by omega, by congr 1, R3, Q3, O3⟩, by simp [intOf]; omega⟩
        · obtain rfl : j = m := by omega
          have XZ2 := Lib.hid (XZa.out.only O2.out (by have := HYG.out; omega))
          have XY2 := Lib.hid (XYa.out.only O2.out (by omega))
          have XS2 := Lib.hid (XSa.out.only O2.out (by have := HLY.out; omega))
          have V12 := Lib.hid (vsl_only V1a.out O2.out (fun ad n c e => by have := N5.out ad n c e; omega))
          have V22 := Lib.hid (vsl_only V2a.out O2.out (fun ad n c e => by have := N6.out ad n c e; omega))
          have B2 := Lib.hid (O2.out.below (by have := HwY.out; omega) Ba.out)
          have HS2 : Hid (Y + 1 < wr.heap.size) := Lib.hid (by rw [O2.out.size]; exact HSa.out)
          have QQ : Hid (∀ i, i < j → q2.getD i 0 = (PWh.paid l B').getD i 0) := Lib.hid (fun i hi => by rw [Q2.out i hi, if_pos hi])
          clear XZa XYa XSa V1a V2a V3a Ba HSa Q2 XMa V32 XM2 m0 m1 m2 m3 m4 RQa HQ
          obtain ⟨z0, z1, z2, z3, z4⟩ := box5 XZ2.out
          obtain ⟨y0, y1, y2, y3, y4⟩ := box5 XY2.out
          obtain ⟨f0, f1, f2, f3, f4⟩ := box5f XY2.out
          obtain ⟨w5, hw5, XY3, O3⟩ := store5 XY2.out (.int .i64 T') (.int .i64 B') (.int .i64 (X' : Int)) (.slice P5 j c5) (.slice O5 j d5)
          go_upto_region 24 with fail
          have XS3 := Lib.hid (XS2.out.only O3 (by have := HLY.out; omega))
          have V13 := Lib.hid (vsl_only V12.out O3 (fun ad n c e => by have := N5.out ad n c e; omega))
          have V23 := Lib.hid (vsl_only V22.out O3 (fun ad n c e => by have := N6.out ad n c e; omega))
          have R3 := Lib.hid (rw_only R2.out O3 (show Y + 1 ≠ Y by omega))
          have B3 := Lib.hid (O3.below HwY.out B2.out)
          have HS3 : Hid (Y + 1 < w5.heap.size) := Lib.hid (by rw [O3.size]; exact HS2.out)
          have XY4 := Lib.hid XY3
          clear hw5 XY3 O3 z0 z1 z2 z3 z4 y0 y1 y2 y3 y4 f0 f1 f2 f3 f4 XZ2 XY2 XS2 V12 V22 R2 B2 HS2
          go_wp2_with fail
          exact ⟨⟨k + 1, j, c5, j, d5, X', T', B', P5, O5, PWh.paid l B', PWh.owed l B', q2, by omega, rfl, rfl, rfl, by congr 1, (show Hid _ from ⟨HT'.out, HB'.out, HX'.out⟩), (show Hid _ from .inr ⟨by omega, rfl, rfl, rfl, rfl⟩), XY4, V13, V23, R3, QQ, HS3, XS3, B3⟩, by simp [intOf]; omega⟩
    · obtain rfl : k = nm := by omega
      have rT : -26388279066624 ≤ T ∧ T ≤ 26388279066624 := by rw [← HE.out.1]; exact sumM_near mt (by omega)
      have rB : -26388279066624 ≤ B ∧ B ≤ 26388279066624 := by rw [← HE.out.2.1]; exact sumM_near mb (by omega)
      have hD := CD.out wr T B B5.out rT rB
      rw [HE.out.2.2] at hD
      have HD := Lib.hid hD
      have HLE : Hid ((PWh.paid l B).length = m) := Lib.hid (by rw [PWh.paid_len, hl.out])
      clear hD CS CD rT rB
      obtain ⟨c0, c1⟩ := box2 XS5.out
      go_wp2_with fail
      refine HD.out.mono ?_
      rintro _ w6 ⟨P5, c5, O5, d5, rfl, v1, v2, b6⟩
      have V1 := Lib.hid v1; have V2 := Lib.hid v2
      have XY6 := Lib.hid (XY5.out.on b6); have B6 := Lib.hid (below_step B5.out b6); have R6 := Lib.hid (RQ.out.on b6); have VP6 := Lib.hid (VP.out.on b6); have VO6 := Lib.hid (VO.out.on b6)
      clear b6 v1 v2 c0 c1 XY5 B5 RQ VP VO XS5 HD
      go_upto_region 26 with fail
      have b7 : Below w6.heap.size w6 (w6.alloc (.cells #[.int .i64 T, .int .i64 B, .int .i64 (X : Int), .slice P5 m c5, .slice O5 m d5] 30)) := (Below.refl _ _).alloc (Nat.le_refl _) _
      have XD7 := Lib.hid (Box.new w6 30 [.int .i64 T, .int .i64 B, .int .i64 (X : Int), .slice P5 m c5, .slice O5 m d5])
      have XY7 := Lib.hid (XY6.out.on b7); have B7 := Lib.hid (below_step B6.out b7); have R7 := Lib.hid (R6.out.on b7); have VP7 := Lib.hid (VP6.out.on b7); have VO7 := Lib.hid (VO6.out.on b7); have V17 := Lib.hid (V1.out.on b7); have V27 := Lib.hid (V2.out.on b7)
      obtain ⟨D, hD⟩ : ∃ D, w6.heap.size = D := ⟨_, rfl⟩
      rw [hD] at XD7 ⊢
      generalize w6.alloc (.cells [.int .i64 T, .int .i64 B, .int .i64 (X : Int), .slice P5 m c5, .slice O5 m d5].toArray 30) = w7 at *
      clear b7 XY6 B6 R6 VP6 VO6 V1 V2 hD
      obtain ⟨z0, z1, z2, z3, z4⟩ := box5 XD7.out
      have gm : ((m : Int) != (m : Int)) = false := bne_self_eq_false _
      have gx : ((X : Int) != (X : Int)) = false := bne_self_eq_false _
      go_wp2_with fail
      clear gm gx
      go_loopw [146] (fun i wy => ∃ (j : Nat), j ≤ m ∧ i = .int .i64 j ∧ Hid (Below w7.heap.size w7 wy)) (fun i _ => m - (intOf i).toNat)
      case atStart => exact ⟨0, Nat.zero_le _, rfl, (show Hid _ from Below.refl _ _)⟩
      case round =>
        clear z0 z1 z2 z3 z4
        obtain ⟨j, hj, rfl, HW⟩ := hrel
        have XD8 := Lib.hid (XD7.out.on HW.out)
        obtain ⟨z0, z1, z2, z3, z4⟩ := box5 XD8.out
        by_cases hjt : j < m
        · have c1 := ((R7.out.on HW.out).2 j hjt).1
          obtain ⟨P5', c5', eP, -, -, s6⟩ := V17.out.on HW.out
          injection eP with eP1 eP2 eP3
          obtain ⟨b6, off6, rfl, hc⟩ := sl_cell s6 (show j < _ by rw [← eP2]; exact hjt)
          subst eP1
          have c3 := hc j (by rw [← eP2]; exact hjt)
          rw [HQ.out j hjt] at c1
          obtain ⟨o1, ho1⟩ : ∃ o1, (PWh.paid l B).getD j 0 = o1 := ⟨_, rfl⟩
          rw [ho1] at c1 c3
          have e4 : (o1 != o1) = false := bne_self_eq_false _
          have i3 : (0 : Int) ≤ (j : Int) := by omega
          have i4 : (j : Int) < (m : Int) := by omega
          clear hc s6 ho1 eP2 eP3
          go_wp2_with fail
          go_quiet (fail)
          go_wp2_with fail
          exact ⟨⟨j + 1, by omega, by congr 1, Lib.hid (below_drewN HW.out _)⟩, by simp [intOf]; omega⟩
        · obtain rfl : j = m := by omega
          have XY8 := Lib.hid (XY7.out.on HW.out)
          have B8 := Lib.hid (below_step B7.out HW.out)
          by_cases h0 : k = 0
          · have g0 : ((k : Int) == 0) = true := by rw [h0]; rfl
            clear h0
            go_wp2_with fail
            refine (awake_any _).mono ?_
            rintro _ w9 ⟨rfl, b9⟩
            have B9 := Lib.hid (below_step B8.out b9)
            clear b9
            go_wp2_with fail
            go_ret
            exact ⟨rfl, B9.out⟩
          · have g0 : ((k : Int) == 0) = false := by rw [beq_eq_false_iff_ne]; omega
            have hI : np = j ∧ no = j ∧ lp = PWh.paid l B ∧ lo = PWh.owed l B := by
              rcases HI.out with h | h
              · omega
              · exact ⟨h.2.1, h.2.2.1, h.2.2.2.1, h.2.2.2.2⟩
            obtain ⟨rfl, rfl, rfl, rfl⟩ := hI
            have SA := Lib.hid (rsame_yes (t := T) (b := B) (x := (X : Int)) (V17.out.on HW.out) (V27.out.on HW.out) (VP7.out.on HW.out) (VO7.out.on HW.out))
            obtain ⟨y0, y1, y2, y3, y4⟩ := box5 XY8.out
            clear h0
            go_wp2_with fail
            refine SA.out.mono ?_
            rintro _ w8 ⟨rfl, b8⟩
            have B9 := Lib.hid (below_step B8.out b8)
            clear b8 SA
            go_wp2_with fail
            refine (awake_any _).mono ?_
            rintro _ w9 ⟨rfl, b9⟩
            have B10 := Lib.hid (below_step B9.out b9)
            clear b9
            go_wp2_with fail
            go_ret
            exact ⟨rfl, B10.out⟩

set_option maxHeartbeats 3200000 in
set_option maxRecDepth 100000 in
/-- What is too long is awake. -/
theorem lyear_out {A F M : Option Addr} {n ca m cf nm cm : Nat} {w : World} (hx : ¬ ((n ≤ 40 ∧ m ≤ 40) ∧ nm ≤ 24)) :
    Calls Try.prog 5 #[.agg #[.slice A n ca, .slice F m cf], .slice M nm cm] w fun e w' => e = .returned (.bool true) ∧ Below w.heap.size w w' := by
  by_cases h40 : n ≤ 40 ∧ m ≤ 40
  · have SM := Lib.hid (fun w => small_yes (A := A) (F := F) (ca := ca) (cf := cf) w h40)
    have i24 : (24 : Int) < (nm : Int) := by have : ¬ nm ≤ 24 := fun k => hx ⟨h40, k⟩; omega
    clear hx h40
    go_enter Try.func5, Try.ntmps5
    go_wp2_with fail
    refine (SM.out _).mono ?_
    rintro _ w2 ⟨rfl, b2⟩
    have B2 := Lib.hid (below_step ((Below.refl w.heap.size w).alloc (Nat.le_refl _) _) b2)
    clear b2
    go_wp2_with fail
    refine (awake_any _).mono ?_
    rintro _ w3 ⟨rfl, b3⟩
    have B3 := Lib.hid (below_step B2.out b3)
    clear b3
    go_wp2_with fail
    go_ret
    exact ⟨rfl, B3.out⟩
  · have SM := Lib.hid (fun w => small_no (A := A) (F := F) (ca := ca) (cf := cf) w h40)
    clear hx h40
    go_enter Try.func5, Try.ntmps5
    go_wp2_with fail
    refine (SM.out _).mono ?_
    rintro _ w2 ⟨rfl, b2⟩
    have B2 := Lib.hid (below_step ((Below.refl w.heap.size w).alloc (Nat.le_refl _) _) b2)
    clear b2
    go_wp2_with fail
    refine (awake_any _).mono ?_
    rintro _ w3 ⟨rfl, b3⟩
    have B3 := Lib.hid (below_step B2.out b3)
    clear b3
    go_wp2_with fail
    go_ret
    exact ⟨rfl, B3.out⟩

theorem lyear_walk (A F : Option Addr) (n ca m cf : Nat) (a r : Nat → Int) (l : List PWh.Fund) (M : Option Addr) (nm cm : Nat) (mt mb : Nat → Int) (w : World) (hA : SlP w A n a r) (hF : SlF w F m l) (hM : SlP w M nm mt mb) :
    Calls Try.prog 5 #[.agg #[.slice A n ca, .slice F m cf], .slice M nm cm] w fun e w' => e = .returned (.bool true) ∧ Below w.heap.size w w' := by
  by_cases h : (n ≤ 40 ∧ m ≤ 40) ∧ nm ≤ 24
  · by_cases hR : PWh.Rt a r n l
    · exact lyear_yes hA hF hM h.1 h.2 hR
    · exact lyear_wrong hA hF hM h.1 h.2 hR
  · exact lyear_out h
end Go.Proofs.Ytpfpcnfodjmgcaa
