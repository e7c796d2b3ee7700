/-
  What the reference of layer 14 answers: whether a scheme is right, an amount far; a fund's part.
  append of one int to a row of the call's own, within a region that draws its order: the one number lies in whatever block.
  What the reference of layer 14 answers: what is due, of a right scheme.
  What the reference of layer 14 answers: years that are equal are the same.
  What the reference of layer 14 answers: a year, less another one, whose lists may be empty.
-/
import Derived.Test.YtpfpcnfodjmgcaaGA
import Derived.Test.YtpfpcnfodjmgcaaRef05
import Derived.Test.YtpfpcnfodjmgcaaRef02Down
import Derived.Test.YtpfpcnfodjmgcaaRowsApart
import Derived.Deep.AppendLies
import Derived.Test.YtpfpcnfodjmgcaaRef05Tax
import Derived.Deep.RegionHeld3
import Derived.Deep.RegionLaw
import Derived.Deep.QuietTactic
import Derived.BigQuiet

namespace Go.Proofs.Ytpfpcnfodjmgcaa
open Go.RowKit

theorem far_any (x : Int) (w : World) (y : Bool) (hy : y = true ↔ Nr x) : Calls Try.prog 15 #[.int .i64 x] w fun e w' => e = .returned (.bool (!y)) ∧ w = w' := by
  unfold Nr at hy
  by_cases h1 : 1125899906842624 < x
  · obtain rfl : y = false := Bool.eq_false_iff.2 (fun h => by have := (hy.1 h).2; omega)
    clear hy
    go_enter Try.func15, Try.ntmps15
    go_wp2_with fail
    go_ret
    exact ⟨by first | rfl | (simp; done) | (simp; omega), rfl⟩
  · by_cases h0 : x < -1125899906842624
    · obtain rfl : y = false := Bool.eq_false_iff.2 (fun h => by have := (hy.1 h).1; omega)
      clear hy
      go_enter Try.func15, Try.ntmps15
      go_wp2_with fail
      go_ret
      exact ⟨by first | rfl | (simp; done) | (simp; omega), rfl⟩
    · obtain rfl : y = true := hy.2 ⟨by omega, by omega⟩
      clear hy
      go_enter Try.func15, Try.ntmps15
      go_wp2_with fail
      go_ret
      exact ⟨by first | rfl | (simp; done) | (simp; omega), rfl⟩

/-- A fund's part of a base. -/
theorem rpart_any (b R c : Int) (w : World) (h1 : 0 ≤ R ∧ R ≤ 10000) (hc : 0 ≤ c ∧ c ≤ 9223372036854775807) (hb : -9223372036854775808 ≤ b) :
    Calls Try.prog 27 #[.int .i64 b, .int .i64 R, .int .i64 c] w fun e w' => e = .returned (.int .i64 (PWh.part b R c : Nat)) ∧ Below w.heap.size w w' := by
  obtain ⟨k, hk⟩ : ∃ k, PWh.cnt b c = k := ⟨_, rfl⟩
  have hr := PWh.cnt_range (b := b) hc.1
  rw [hk] at hr
  obtain ⟨P, hP⟩ : ∃ P : Nat, k = (P : Int) := ⟨k.toNat, by omega⟩
  obtain ⟨R', hR⟩ : ∃ Q : Nat, R = (Q : Int) := ⟨R.toNat, by omega⟩
  have hq := PWh.part_bound (b := b) (c := c) h1.2 hc.2 hc.1
  have hpe : PWh.part b R c = P * R' / 10000 := by unfold PWh.part; rw [hk, hP, hR, Int.toNat_natCast, Int.toNat_natCast]
  rw [hpe] at hq ⊢
  have HD : Hid (∀ w', Calls Try.prog 33 #[.int .i64 k, .int .i64 R, .int .i64 10000, .int .i64 0] w' fun e w'' => e = .returned (.tuple #[.int .i64 ((P * R' / 10000 : Nat) : Int), .bool true]) ∧ Below w'.heap.size w' w'') := Lib.hid (fun w' => by
    have := refdiv_down P R' 10000 w' (by omega) (by omega) (by omega) (by omega) (by omega)
    rw [hP, hR]; exact this)
  obtain ⟨Q, hQ⟩ : ∃ Q, P * R' / 10000 = Q := ⟨_, rfl⟩
  rw [hQ] at HD ⊢
  clear hq hpe hQ hP hR hr
  unfold PWh.cnt at hk
  by_cases b0 : b < 0
  · by_cases c0 : 0 < c
    · obtain rfl : k = 0 := by omega
      have c1 : ¬ c < 0 := by omega
      clear hk h1 hc
      go_enter Try.func27, Try.ntmps27
      go_wp2_with fail
      refine (HD.out _).mono ?_
      rintro _ w1 ⟨rfl, b1⟩
      go_wp2_with fail
      go_ret
      exact ⟨rfl, b1⟩
    · obtain rfl : c = 0 := by omega
      obtain rfl : k = 0 := by omega
      clear hk h1 hc c0
      go_enter Try.func27, Try.ntmps27
      go_wp2_with fail
      refine (HD.out _).mono ?_
      rintro _ w1 ⟨rfl, b1⟩
      go_wp2_with fail
      go_ret
      exact ⟨rfl, b1⟩
  · by_cases c0 : b < c
    · obtain rfl : k = b := by omega
      have c1 : ¬ c < k := by omega
      clear hk h1 hc
      go_enter Try.func27, Try.ntmps27
      go_wp2_with fail
      refine (HD.out _).mono ?_
      rintro _ w1 ⟨rfl, b1⟩
      go_wp2_with fail
      go_ret
      exact ⟨rfl, b1⟩
    · obtain rfl : k = c := by omega
      clear hk
      by_cases c1 : k < b
      · clear h1 hc
        go_enter Try.func27, Try.ntmps27
        go_wp2_with fail
        refine (HD.out _).mono ?_
        rintro _ w1 ⟨rfl, b1⟩
        go_wp2_with fail
        go_ret
        exact ⟨rfl, b1⟩
      · obtain rfl : k = b := by omega
        clear h1 hc
        go_enter Try.func27, Try.ntmps27
        go_wp2_with fail
        refine (HD.out _).mono ?_
        rintro _ w1 ⟨rfl, b1⟩
        go_wp2_with fail
        go_ret
        exact ⟨rfl, b1⟩

set_option maxHeartbeats 3200000 in
set_option maxRecDepth 100000 in
theorem rwright_any {A F : Option Addr} {n ca m cf : Nat} {a r : Nat → Int} {l : List PWh.Fund} {w : World} {bb : Bool} (hA : SlP w A n a r) (hF : SlF w F m l) (hb : bb = true ↔ PWh.Rt a r n l) :
    Calls Try.prog 12 #[.agg #[.slice A n ca, .slice F m cf]] w fun e w' => e = .returned (.bool bb) ∧ Below w.heap.size w w' := by
  obtain ⟨B1, hB1⟩ : ∃ B1 : Bool, B1 = true ↔ PBr.Rt a r n := by
    by_cases h : PBr.Rt a r n
    · exact ⟨true, fun _ => h, fun _ => rfl⟩
    · exact ⟨false, (fun k => by cases k), fun k => absurd k h⟩
  have HR : Hid (∀ w, SlP w A n a r → Calls Try.prog 23 #[.slice A n ca] w fun e w' => e = .returned (.bool B1) ∧ Below w.heap.size w w') := Lib.hid (fun w h => by have := reftable_any A n ca a r w h B1 hB1; exact this.mono fun e w2 ⟨h1, q, h2⟩ => ⟨h1, by rw [h2]; exact below_drewN (Below.refl _ _) _⟩)
  have HA := Lib.hid hA; have HF := Lib.hid hF; have HB := Lib.hid hb; have H1 := Lib.hid hB1
  have hm := hF.2.2
  have hl := Lib.hid hF.len
  clear hA hF hb hB1
  cases B1 with
  | false =>
    have HX : Hid (bb = false) := Lib.hid (Bool.eq_false_iff.2 (fun h => by have := H1.out.2 (HB.out.1 h).1; cases this))
    go_enter Try.func12, Try.ntmps12
    go_wp2_with fail
    refine (HR.out _ (HA.out.on ((Below.refl _ _).alloc (Nat.le_refl _) _))).mono ?_
    rintro _ w1 ⟨rfl, b1⟩
    have B1 := Lib.hid (below_step ((Below.refl w.heap.size w).alloc (Nat.le_refl _) _) b1)
    clear b1
    go_wp2_with fail
    go_ret
    exact ⟨by rw [HX.out]; rfl, B1.out⟩
  | true =>
    have b0 := H1.out.1 rfl
    have B0 := Lib.hid b0
    clear b0 H1
    by_cases h6 : 6 < m
    · have HX : Hid (bb = false) := Lib.hid (Bool.eq_false_iff.2 (fun h => by have := (HB.out.1 h).2.1; have := hl.out; omega))
      have i6 : (6 : Int) < (m : Int) := by omega
      go_enter Try.func12, Try.ntmps12
      go_wp2_with fail
      refine (HR.out _ (HA.out.on ((Below.refl _ _).alloc (Nat.le_refl _) _))).mono ?_
      rintro _ w1 ⟨rfl, b1⟩
      have k0 := keepc b1 (show (w.alloc (.cells #[.slice A n ca, .slice F m cf] 37)).cell? ⟨w.heap.size, 1, none⟩ = some (.slice F m cf) by go_simp)
      have B1 := Lib.hid (below_step ((Below.refl w.heap.size w).alloc (Nat.le_refl _) _) b1)
      clear b1
      go_wp2_with fail
      go_ret
      exact ⟨by rw [HX.out]; rfl, B1.out⟩
    · have i6 : ¬ (6 : Int) < (m : Int) := by omega
      go_enter Try.func12, Try.ntmps12
      go_wp2_with fail
      refine (HR.out _ (HA.out.on ((Below.refl _ _).alloc (Nat.le_refl _) _))).mono ?_
      rintro _ w1 ⟨rfl, b1⟩
      have k0 := keepc b1 (show (w.alloc (.cells #[.slice A n ca, .slice F m cf] 37)).cell? ⟨w.heap.size, 1, none⟩ = some (.slice F m cf) by go_simp)
      have B1 := Lib.hid (below_step ((Below.refl w.heap.size w).alloc (Nat.le_refl _) _) b1)
      clear b1
      go_wp2_with fail
      go_loopw [18] (fun i wr => ∃ (k : Nat), k ≤ m ∧ i = .int .i64 k ∧ Hid (PWh.OkTo l k) ∧ Hid (Below w.heap.size w wr)) (fun i _ => m - (intOf i).toNat)
      case atStart => exact ⟨0, Nat.zero_le _, rfl, (show Hid _ from fun i _ hi => by omega), B1⟩
      case round =>
        clear k0 B1
        obtain ⟨k, hk, rfl, HK, HW⟩ := hrel
        by_cases hlt : k < m
        · obtain ⟨b, off, rfl, hc⟩ := HF.out.cells hlt
          have hkl : k < l.length := by rw [hl.out]; exact hlt
          obtain ⟨c1, c2, c3⟩ := hc k hkl
          replace c1 := (HW.out.cell (World.block_lt_of_cell? w _ c1)).trans c1
          replace c2 := (HW.out.cell (World.block_lt_of_cell? w _ c2)).trans c2
          replace c3 := (HW.out.cell (World.block_lt_of_cell? w _ c3)).trans c3
          have HL := Lib.hid (show l[k] = l[k] from rfl)
          obtain ⟨f, hf⟩ : ∃ f, l[k] = f := ⟨_, rfl⟩
          rw [hf] at c1 c2 c3
          have HFk := Lib.hid hf
          obtain ⟨x, y, z⟩ := f
          dsimp only at c1 c2 c3
          have i1 : (0 : Int) ≤ (k : Int) := by omega
          have i2 : (k : Int) < (m : Int) := by omega
          have HN : Hid (0 ≤ x → x ≤ 10000 → 0 ≤ y → y ≤ 10000 → 0 ≤ z → PWh.OkTo l (k + 1)) := Lib.hid (fun h1 h2 h3 h4 h5 => HK.out.next hkl (by rw [HFk.out]; exact ⟨⟨h1, h2⟩, ⟨h3, h4⟩, h5⟩))
          have HX : Hid (bb = true → (0 ≤ x ∧ x ≤ 10000) ∧ (0 ≤ y ∧ y ≤ 10000) ∧ 0 ≤ z) := Lib.hid (fun h => by
            have := (HB.out.1 h).2.2 k hkl hkl
            rw [HFk.out] at this
            exact this)
          clear hf HL hc HFk
          by_cases x0 : x < 0
          · have HZ : Hid (bb = false) := Lib.hid (Bool.eq_false_iff.2 (fun h => by have := (HX.out h).1; omega))
            go_wp2_with fail
            go_ret
            exact ⟨by rw [HZ.out]; rfl, HW.out.alloc HW.out.size _⟩
          by_cases x1 : 10000 < x
          · have HZ : Hid (bb = false) := Lib.hid (Bool.eq_false_iff.2 (fun h => by have := (HX.out h).1; omega))
            go_wp2_with fail
            go_ret
            exact ⟨by rw [HZ.out]; rfl, HW.out.alloc HW.out.size _⟩
          by_cases y0 : y < 0
          · have HZ : Hid (bb = false) := Lib.hid (Bool.eq_false_iff.2 (fun h => by have := (HX.out h).2.1; omega))
            go_wp2_with fail
            go_ret
            exact ⟨by rw [HZ.out]; rfl, HW.out.alloc HW.out.size _⟩
          by_cases y1 : 10000 < y
          · have HZ : Hid (bb = false) := Lib.hid (Bool.eq_false_iff.2 (fun h => by have := (HX.out h).2.1; omega))
            go_wp2_with fail
            go_ret
            exact ⟨by rw [HZ.out]; rfl, HW.out.alloc HW.out.size _⟩
          by_cases z0 : z < 0
          · have HZ : Hid (bb = false) := Lib.hid (Bool.eq_false_iff.2 (fun h => by have := (HX.out h).2.2; omega))
            go_wp2_with fail
            go_ret
            exact ⟨by rw [HZ.out]; rfl, HW.out.alloc HW.out.size _⟩
          have HN2 := Lib.hid (HN.out (by omega) (by omega) (by omega) (by omega) (by omega))
          go_wp2_with fail
          exact ⟨⟨k + 1, by omega, by congr 1, HN2, Lib.hid (HW.out.alloc HW.out.size _)⟩, by simp [intOf]; omega⟩
        · obtain rfl : k = m := by omega
          have HZ : Hid (bb = true) := Lib.hid (HB.out.2 ⟨B0.out, by rw [hl.out]; omega, by rw [hl.out]; exact HK.out⟩)
          go_wp2_with fail
          go_ret
          exact ⟨by rw [HZ.out]; rfl, HW.out⟩
end Go.Proofs.Ytpfpcnfodjmgcaa

namespace Go.Proofs.Ytpfpcnfodjmgcaa
open Go.RowKit

theorem step_append_int (w : World) {ops : Array Oper} {o : Oper} {a : Act} {K : Act → World → Prop} {Q : Exit → Act → World → Prop} {E : Prop} (hgd : o.guard = none) (s x : Operand)
    (ho : o.op = .call { callee := .builtin .append, args := #[s, x], argTypes := #[28, 28] })
    (base : Nat) (v : Value) (n : Nat) (xs : List Int) (d : Int) (hs : a.eval s = v) (hown : w.ownsRow base 3 1 v n (cellsOfInts xs))
    (H1 : Nat) (hx : a.eval x = .slice (some ⟨H1, 0, none⟩) 1 1) (hc0 : w.cell? ⟨H1, 0, none⟩ = some (.int .i64 d)) (hn : n + 1 ≤ 1000) (hbase : base ≤ w.heap.size)
    (h : ∀ v' w', w'.ownsRow base 3 1 v' (n + 1) (cellsOfInts (xs ++ [d])) → Below base w w' →
      (∀ u m l, w.ownsRow base 3 1 u m (cellsOfInts l) → Ap u v → w'.ownsRow base 3 1 u m (cellsOfInts l) ∧ Ap u v') → (∀ p u, w.cell? p = some u → v.ownBlock ≠ some p.block → w'.cell? p = some u) → K (a.put o.dst v') w') :
    if Region.wanted o (yielded ops a.tmps) = true then Oper.wp Try.prog o a w K Q else E := by
  obtain ⟨i0, hi, hz0, hz1, hz2⟩ := info_parts infoInt
  refine step_append_lies w hgd s x 28 ho base 3 i0 (.int .i64 0) 1 8 Try.underlying28 hi hz0 hz1 hz2 rfl (by decide) v n _ hs hown ⟨H1, 0, none⟩ 1 1 [.int .i64 d] hx rfl ?_ (fun u hu => ?_) (by omega) (by unfold maxLen; omega) (by omega) hbase w.heap.size rfl (fun g cap w' ho' hg hat _ => h _ w' ?_ ?_ ?_ ?_)
  · intro j u hj
    match j, hj with
    | 0, hj => simp at hj; subst hj; simpa [Addr.add] using hc0
  · simp at hu; subst hu; rfl
  · rw [cellsOfInts_app]; exact ho'
  · exact (Below.refl _ _).grown hg hbase (fun k hk => (hown.lt k hk).1)
  · intro u m l hu hap
    refine ⟨hu.kept hg ?_, ?_⟩
    · cases hb : u.ownBlock with
      | none => exact .inl rfl
      | some k => exact .inr (fun e => hap k hb e.symm)
    · intro k hk hv'
      have hlt := (hu.lt k hk).2
      have hgk : g = k := by simpa [Value.ownBlock] using hv'
      rcases hat with e | e
      · exact hap k hk (by rw [e, hgk])
      · omega
  · intro p u hp hne
    exact hg.cell hp (fun e => hne e.symm)
end Go.Proofs.Ytpfpcnfodjmgcaa

namespace Go.Proofs.Ytpfpcnfodjmgcaa
open Go.RowKit

set_option maxHeartbeats 6400000 in
set_option maxRecDepth 100000 in
theorem rdue_any {A F : Option Addr} {n ca m cf : Nat} {a r : Nat → Int} {l : List PWh.Fund} {w : World} {t b : Int} (hA : SlP w A n a r) (hF : SlF w F m l) (hR : PWh.Rt a r n l) (ht : t ≤ 9223372036854775807) (hb : -9223372036854775808 ≤ b) :
    Calls Try.prog 17 #[.agg #[.slice A n ca, .slice F m cf], .int .i64 t, .int .i64 b] w (YrR1 t b (PBr.tax a r n t : Nat) (PWh.paid l b) (PWh.owed l b) w) := by
  have HT : Hid (∀ w', Below w.heap.size w w' → Calls Try.prog 26 #[.slice A n ca, .int .i64 t] w' fun e w'' => e = .returned (.int .i64 (PBr.tax a r n t : Nat)) ∧ Below w'.heap.size w' w'') := Lib.hid (fun w' h => reftax_any A n ca a r t w' (hA.on h) hR.1 ht)
  have HF := Lib.hid hF; have HRt := Lib.hid hR
  have HI := Lib.hid hF.2.1
  have hl := Lib.hid hF.len
  have hm6 : m ≤ 6 := by have := hR.2.1; have := hl.out; omega
  obtain ⟨T, hT⟩ : ∃ T, PBr.tax a r n t = T := ⟨_, rfl⟩
  rw [hT] at HT ⊢
  clear hA hF hR ht hT
  go_enter Try.func17, Try.ntmps17
  go_upto_region 1 with fail
  obtain ⟨w1, hw1, XS, XZ, b1, hs1⟩ := enter2 w 37 41 [.slice A n ca, .slice F m cf] [.int .i64 0, .int .i64 0, .int .i64 0, .slice none 0 0, .slice none 0 0]
  rw [hw1]
  obtain ⟨L, hL⟩ : ∃ L, w.heap.size = L := ⟨_, rfl⟩
  rw [hL] at XS XZ hs1 ⊢
  have XS2 := Lib.hid XS; have XZ2 := Lib.hid XZ; have B2 := Lib.hid b1; have HLw := Lib.hid hL
  clear hw1 hL b1 XS XZ hs1
  obtain ⟨c0, c1⟩ := box2 XS2.out
  go_wp2_with fail
  refine (HT.out _ B2.out).mono ?_
  rintro _ w3 ⟨rfl, b3⟩
  have XS3 := Lib.hid (XS2.out.on b3); have XZ3 := Lib.hid (XZ2.out.on b3); have B3 := Lib.hid (below_step B2.out b3)
  clear b3 XS2 XZ2 B2 c0 c1 HT
  obtain ⟨c0, c1⟩ := box2 XS3.out
  go_upto_region 2 with fail
  have YB := YrB.start w3 41 t b (T : Int)
  have b4 : Below w3.heap.size w3 (w3.alloc (.cells #[.int .i64 t, .int .i64 b, .int .i64 (T : Int), .slice none 0 0, .slice none 0 0] 41)) := (Below.refl _ _).alloc (Nat.le_refl _) _
  have hLD : L + 1 < w3.heap.size := XZ3.out.1
  obtain ⟨D, hD⟩ : ∃ D, w3.heap.size = D := ⟨_, rfl⟩
  have XS4 := Lib.hid (XS3.out.on b4); have XZ4 := Lib.hid (XZ3.out.on b4); have B4 := Lib.hid (below_step B3.out b4)
  rw [hD] at YB hLD ⊢
  generalize w3.alloc (.cells #[.int .i64 t, .int .i64 b, .int .i64 (T : Int), .slice none 0 0, .slice none 0 0] 41) = w4 at *
  have YB4 := Lib.hid YB
  clear YB b4 XS3 XZ3 B3 hD c0 c1
  obtain ⟨c0, c1⟩ := box2 XS4.out
  go_wp2_with fail
  go_loopw [20] (fun i wr => ∃ (k np cp no co : Nat) (P O : Option Addr), k ≤ m ∧ i = .int .i64 k ∧ Hid (YrB wr D (D + 1) t b T (.slice P np cp) (.slice O no co) ((PWh.paid l b).take k) ((PWh.owed l b).take k)) ∧ Hid (Below D w4 wr)) (fun i _ => m - (intOf i).toNat)
  case atStart => exact ⟨0, 0, 0, 0, 0, none, none, Nat.zero_le _, rfl, YB4, (show Hid _ from Below.refl _ _)⟩
  case round =>
    clear c0 c1 YB4
    obtain ⟨k, np, cp, no, co, P0, O0, hk, rfl, HY, HW⟩ := hrel
    have HWw : Hid (Below w.heap.size w wr) := Lib.hid (B4.out.trans (HW.out.mono (by have := HLw.out; omega)))
    by_cases hlt : k < m
    · obtain ⟨bf, off, rfl, hc⟩ := HF.out.cells hlt
      have hkl : k < l.length := by rw [hl.out]; exact hlt
      obtain ⟨d1, d2, d3⟩ := hc k hkl
      replace d1 := (HWw.out.cell (World.block_lt_of_cell? w _ d1)).trans d1
      replace d2 := (HWw.out.cell (World.block_lt_of_cell? w _ d2)).trans d2
      replace d3 := (HWw.out.cell (World.block_lt_of_cell? w _ d3)).trans d3
      have hok := HRt.out.2.2 k hkl hkl
      have hin := HI.out k hkl
      have HP0 := Lib.hid (PWh.paid_next hkl b)
      have HO0 := Lib.hid (PWh.owed_next hkl b)
      have HLP := Lib.hid (show ((PWh.paid l b).take k).length = k by rw [List.length_take, PWh.paid_len]; omega)
      have HLO := Lib.hid (show ((PWh.owed l b).take k).length = k by rw [List.length_take, PWh.owed_len]; omega)
      have hlp := HLP.out; have hlo := HLO.out
      obtain ⟨LP, hLP⟩ : ∃ LP, (PWh.paid l b).take k = LP := ⟨_, rfl⟩
      obtain ⟨LO, hLO⟩ : ∃ LP, (PWh.owed l b).take k = LP := ⟨_, rfl⟩
      rw [hLP] at HP0 HLP HY; rw [hLO] at HO0 HLO HY
      clear hlp hlo hLP hLO
      obtain ⟨f, hf⟩ : ∃ f, l[k] = f := ⟨_, rfl⟩
      rw [hf] at d1 d2 d3 hok hin HP0 HO0
      obtain ⟨x, y, z⟩ := f
      dsimp only at d1 d2 d3 HP0 HO0
      have R1 : Hid (∀ w', Calls Try.prog 27 #[.int .i64 b, .int .i64 x, .int .i64 z] w' fun e w'' => e = .returned (.int .i64 (PWh.part b x z : Nat)) ∧ Below w'.heap.size w' w'') := Lib.hid (fun w' => rpart_any b x z w' hok.1 ⟨hok.2.2, hin.2.2.2⟩ hb)
      have R2 : Hid (∀ w', Calls Try.prog 27 #[.int .i64 b, .int .i64 y, .int .i64 z] w' fun e w'' => e = .returned (.int .i64 (PWh.part b y z : Nat)) ∧ Below w'.heap.size w' w'') := Lib.hid (fun w' => rpart_any b y z w' hok.2.1 ⟨hok.2.2, hin.2.2.2⟩ hb)
      obtain ⟨P, hP⟩ : ∃ P, PWh.part b x z = P := ⟨_, rfl⟩
      obtain ⟨Q, hQ⟩ : ∃ P, PWh.part b y z = P := ⟨_, rfl⟩
      rw [hP] at R1 HP0; rw [hQ] at R2 HO0
      have i1 : (0 : Int) ≤ (k : Int) := by omega
      have i2 : (k : Int) < (m : Int) := by omega
      clear hf hok hin hP hQ hc
      go_upto_region 5 with fail
      have hsz := HY.out.box.1
      have HOB : Hid ((.slice P0 np cp : Value).ownBlock ≠ some wr.heap.size) := Lib.hid (fun e => Nat.lt_irrefl _ (HY.out.own.lt _ e).2)
      have HOB' : Hid ((.slice O0 no co : Value).ownBlock ≠ some wr.heap.size) := Lib.hid (fun e => Nat.lt_irrefl _ (HY.out.own'.lt _ e).2)
      obtain ⟨G, hG⟩ : ∃ G, wr.heap.size = G := ⟨_, rfl⟩
      have g0 : (wr.alloc (.cells #[.int .i64 x, .int .i64 y, .int .i64 z] 65)).cell? ⟨wr.heap.size, 0, none⟩ = some (.int .i64 x) := by go_simp
      have g1 : (wr.alloc (.cells #[.int .i64 x, .int .i64 y, .int .i64 z] 65)).cell? ⟨wr.heap.size, 1, none⟩ = some (.int .i64 y) := by go_simp
      have g2 : (wr.alloc (.cells #[.int .i64 x, .int .i64 y, .int .i64 z] 65)).cell? ⟨wr.heap.size, 2, none⟩ = some (.int .i64 z) := by go_simp
      have b5 : Below wr.heap.size wr (wr.alloc (.cells #[.int .i64 x, .int .i64 y, .int .i64 z] 65)) := (Below.refl _ _).alloc (Nat.le_refl _) _
      have HY5 := Lib.hid (HY.out.on b5)
      have HW5 := Lib.hid (HW.out.trans (b5.mono (Nat.le_of_lt hsz)))
      have HG5 := Lib.hid (show G < (wr.alloc (.cells #[.int .i64 x, .int .i64 y, .int .i64 z] 65)).heap.size by simp; omega)
      rw [hG] at g0 g1 g2 HOB HOB' ⊢
      generalize wr.alloc (.cells #[.int .i64 x, .int .i64 y, .int .i64 z] 65) = w5 at *
      have HDG : D < G := by omega
      clear b5 hG HY HW HWw d1 d2 d3 hsz
      go_cut [33] (fun _ wx => ∃ P1 np1 cp1, Hid (YrB wx D (D + 1) t b T (.slice P1 np1 cp1) (.slice O0 no co) ((PWh.paid l b).take (k + 1)) LO) ∧ Hid (Below D w4 wx) ∧ wx.cell? ⟨G, 1, none⟩ = some (.int .i64 y) ∧ wx.cell? ⟨G, 2, none⟩ = some (.int .i64 z))
      case first =>
        obtain ⟨e0, e1, e2, e3, e4⟩ := box5 HY5.out.box
        obtain ⟨f0, f1, f2, f3, f4⟩ := box5f HY5.out.box
        go_region_law (first
            | (refine step_append_int _ (by rfl) _ _ (by rfl) (D + 1) (.slice P0 np cp) _ LP (P : Int) (by rfl) (Y6.out.own.alloc _) _ (by rfl) (by go_simp) (by rw [HLP.out]; omega) (by simp; have := Y6.out.le; omega) ?_; intro p' w7 hown7 hb7 hk7 hc7; obtain ⟨P1, cp1, rfl⟩ := own_shape hown7; have e7 : w7.cell? ⟨D, 3, none⟩ = some (.slice P0 np cp) := (hb7.cell (p := ⟨D, 3, none⟩) (Nat.lt_succ_self D)).trans (by go_simp); have f7 : w7.frozen? ⟨D, 3, none⟩ = false := (hb7.frozen (p := ⟨D, 3, none⟩) (Nat.lt_succ_self D)).trans (by go_simp); have y7 : w7.cell? ⟨G, 1, none⟩ = some (.int .i64 y) := hc7 _ _ (by go_simp) HOB.out; have z7 : w7.cell? ⟨G, 2, none⟩ = some (.int .i64 z) := hc7 _ _ (by go_simp) HOB.out)
            | (go_simp; go_at_call 27; refine (R1.out _).mono ?_; rintro _ w6 ⟨rfl, hb6⟩; have Y6 := Lib.hid (HY5.out.on (below_undrew hb6)); have e6 := Y6.out.box.c 3 (v := .slice P0 np cp) rfl; have f6 := Y6.out.box.f 3 (v := .slice P0 np cp) rfl; have l6 := World.block_lt_of_cell? w6 _ e6; have y6 := keepc (below_undrew hb6) (show _ = some (Value.int .i64 y) from g1); have z6 := keepc (below_undrew hb6) (show _ = some (Value.int .i64 z) from g2); have k6 := World.block_lt_of_cell? w6 _ y6))
        all_goals
          have HA6 := Y6.out.on ((Below.refl w6.heap.size w6).alloc (Nat.le_refl _) (.cells #[.int .i64 (P : Int)] 3))
          have hY7 := HA6.push hown7 hb7 hk7
          rw [← HP0.out] at hY7
          have BW : Below D w4 (w7.setCell ⟨D, 3, none⟩ (.slice P1 (LP.length + 1) cp1)) := ((HW5.out.trans ((below_undrew hb6).mono (by have := HG5.out; omega))).trans (((Below.refl w6.heap.size w6).alloc (Nat.le_refl _) (.cells #[.int .i64 (P : Int)] 3)).mono (Nat.le_of_lt Y6.out.box.1)) |>.trans (hb7.mono (Nat.le_succ D))).setCell (Nat.le_refl D) _
          have HYZ := Lib.hid hY7
          have HBZ := Lib.hid BW
          have y8 : (w7.setCell ⟨D, 3, none⟩ (.slice P1 (LP.length + 1) cp1)).cell? ⟨G, 1, none⟩ = some (.int .i64 y) := by rw [World.cell?_setCell_far _ _ _ _ (by simp; omega)]; exact y7
          have z8 : (w7.setCell ⟨D, 3, none⟩ (.slice P1 (LP.length + 1) cp1)).cell? ⟨G, 2, none⟩ = some (.int .i64 z) := by rw [World.cell?_setCell_far _ _ _ _ (by simp; omega)]; exact z7
          clear hown7 hb7 hk7 hc7 hY7 BW HA6
          go_wp2_with fail
          go_meet
          exact ⟨_, _, _, HYZ, HBZ, y8, z8⟩
      case rest =>
        obtain ⟨P1, np1, cp1, HY8, HW8, y8, z8⟩ := hcut
        have hD8 : D < wc.heap.size := HY8.out.box.1
        have hG8 := World.block_lt_of_cell? wc _ z8
        clear HW5 HG5 HY5 g0 g1 g2 R1 HP0 HLP
        obtain ⟨LQ, hLQ⟩ : ∃ LP, (PWh.paid l b).take (k + 1) = LP := ⟨_, rfl⟩
        have HLQ := Lib.hid hLQ
        rw [hLQ] at HY8
        clear hLQ
        go_upto_region 6 with fail
        obtain ⟨e0, e1, e2, e3, e4⟩ := box5 HY8.out.box
        obtain ⟨f0, f1, f2, f3, f4⟩ := box5f HY8.out.box
        go_region_law (first
            | (refine step_append_int _ (by rfl) _ _ (by rfl) (D + 1) (.slice O0 no co) _ LO (Q : Int) (by rfl) (Y6.out.own'.alloc _) _ (by rfl) (by go_simp) (by rw [HLO.out]; omega) (by simp; have := Y6.out.le; omega) ?_; intro p' w7 hown7 hb7 hk7 hc7; obtain ⟨O1, co1, rfl⟩ := own_shape hown7; have e7 : w7.cell? ⟨D, 4, none⟩ = some (.slice O0 no co) := (hb7.cell (p := ⟨D, 4, none⟩) (Nat.lt_succ_self D)).trans (by go_simp); have f7 : w7.frozen? ⟨D, 4, none⟩ = false := (hb7.frozen (p := ⟨D, 4, none⟩) (Nat.lt_succ_self D)).trans (by go_simp))
            | (go_simp; go_at_call 27; refine (R2.out _).mono ?_; rintro _ w6 ⟨rfl, hb6⟩; have Y6 := Lib.hid (HY8.out.on (below_undrew hb6)); have e6 := Y6.out.box.c 4 (v := .slice O0 no co) rfl; have f6 := Y6.out.box.f 4 (v := .slice O0 no co) rfl; have l6 := World.block_lt_of_cell? w6 _ e6))
        all_goals
          have HA6 := Y6.out.on ((Below.refl w6.heap.size w6).alloc (Nat.le_refl _) (.cells #[.int .i64 (Q : Int)] 3))
          have hY7 := HA6.push' hown7 hb7 hk7
          rw [← HO0.out] at hY7
          have BW : Below D w4 (w7.setCell ⟨D, 4, none⟩ (.slice O1 (LO.length + 1) co1)) := ((HW8.out.trans ((below_undrew hb6).mono (by have := HY8.out.box.1; omega))).trans (((Below.refl w6.heap.size w6).alloc (Nat.le_refl _) (.cells #[.int .i64 (Q : Int)] 3)).mono (Nat.le_of_lt Y6.out.box.1)) |>.trans (hb7.mono (Nat.le_succ D))).setCell (Nat.le_refl D) _
          have HYZ := Lib.hid hY7
          have HBZ := Lib.hid BW
          clear hown7 hb7 hk7 hc7 hY7 BW HA6
          rw [← HLQ.out] at HYZ
          go_wp2_with fail
          exact ⟨⟨k + 1, _, _, _, _, _, _, by omega, by congr 1, HYZ, HBZ⟩, by simp [intOf]; omega⟩
    · obtain rfl : k = m := by omega
      have HTP : Hid ((PWh.paid l b).take k = PWh.paid l b) := Lib.hid (List.take_of_length_le (by rw [PWh.paid_len, hl.out]; omega))
      have HTO : Hid ((PWh.owed l b).take k = PWh.owed l b) := Lib.hid (List.take_of_length_le (by rw [PWh.owed_len, hl.out]; omega))
      rw [HTP.out, HTO.out] at HY
      have HXZ := Lib.hid (XZ4.out.keep HW.out (by omega))
      obtain ⟨f0, f1, f2, f3, f4⟩ := box5f HXZ.out
      obtain ⟨e0, e1, e2, e3, e4⟩ := box5 HXZ.out
      obtain ⟨g0, g1, g2, g3, g4⟩ := box5 HY.out.box
      obtain ⟨wz, hw, rb, ON⟩ := store5 HXZ.out (.int .i64 t) (.int .i64 b) (.int .i64 (T : Int)) (.slice P0 np cp) (.slice O0 no co)
      obtain ⟨k0', k1', k2', k3', k4'⟩ := box5 rb
      have hY := ((((HY.out.far (H := L + 1) (j := 0) (v := .int .i64 t) hLD).far (H := L + 1) (j := 1) (v := .int .i64 b) hLD).far (H := L + 1) (j := 2) (v := .int .i64 (T : Int)) hLD).far (H := L + 1) (j := 3) (v := .slice P0 np cp) hLD).far (H := L + 1) (j := 4) (v := .slice O0 no co) hLD
      rw [hw] at hY
      rw [← hw] at k0' k1' k2' k3' k4'
      have HWz := Lib.hid hw
      have BZ := Lib.hid (ON.below (Nat.le_succ L) (HLw.out ▸ HWw.out))
      have HYz := Lib.hid hY
      clear hw rb ON hY
      go_wp2_with fail
      (try simp only [Exit.inBlock, Exit.then])
      refine bodyPost_ret (by simp [results, Try.results17, go_sem, k0', k1', k2', k3', k4']; try rfl) rfl ?_
      rw [HWz.out]
      have hp6 : (PWh.paid l b).length ≤ 1000 := by rw [PWh.paid_len, hl.out]; omega
      have ho6 : (PWh.owed l b).length ≤ 1000 := by rw [PWh.owed_len, hl.out]; omega
      exact ⟨_, _, rfl, vsl_of_own HYz.out.own (in64_paid HRt.out.2.2 HI.out b) hp6, vsl_of_own HYz.out.own' (in64_owed HRt.out.2.2 HI.out b) ho6, by rw [HLw.out]; exact BZ.out, fresh_own HYz.out.own (by rw [HLw.out]; omega), fresh_own HYz.out.own' (by rw [HLw.out]; omega)⟩
end Go.Proofs.Ytpfpcnfodjmgcaa

namespace Go.Proofs.Ytpfpcnfodjmgcaa
open Go.RowKit

theorem sl_cell {w : World} {A : Option Addr} {n : Nat} {l : List Int} (h : Sl w A n l) {i : Nat} (hi : i < n) : ∃ b off, A = some ⟨b, off, none⟩ ∧ ∀ k, k < n → w.cell? ⟨b, off + k, none⟩ = some (.int .i64 (l.getD k 0)) := by
  rcases h.2.2.2 with h | h
  · omega
  · exact h

set_option maxHeartbeats 3200000 in
set_option maxRecDepth 100000 in
theorem rsame_yes {w : World} {t b x : Int} {lp lo : List Int} {p o p' o' : Value} (hp : VSl w p lp) (ho : VSl w o lo) (hp' : VSl w p' lp) (ho' : VSl w o' lo) :
    Calls Try.prog 16 #[yrV t b x p o, yrV t b x p' o'] w fun e w' => e = .returned (.bool true) ∧ Below w.heap.size w w' := by
  obtain ⟨P, cp, rfl, -, -, s1⟩ := hp
  obtain ⟨O, co, rfl, -, -, s2⟩ := ho
  obtain ⟨P', cp', rfl, -, -, s3⟩ := hp'
  obtain ⟨O', co', rfl, -, -, s4⟩ := ho'
  have S1 := Lib.hid s1; have S2 := Lib.hid s2; have S3 := Lib.hid s3; have S4 := Lib.hid s4
  have m1 := s1.2.2.1; have m2 := s2.2.2.1
  obtain ⟨n1, hn1⟩ : ∃ n, lp.length = n := ⟨_, rfl⟩
  obtain ⟨n2, hn2⟩ : ∃ n, lo.length = n := ⟨_, rfl⟩
  rw [hn1] at S1 S3 m1 ⊢; rw [hn2] at S2 S4 m2 ⊢
  unfold yrV
  clear s1 s2 s3 s4 hn1 hn2
  have e1 : (t != t) = false := bne_self_eq_false _
  have e2 : (b != b) = false := bne_self_eq_false _
  have e3 : (x != x) = false := bne_self_eq_false _
  have e4 : ((n1 : Int) != (n1 : Int)) = false := bne_self_eq_false _
  have e5 : ((n2 : Int) != (n2 : Int)) = false := bne_self_eq_false _
  go_enter Try.func16, Try.ntmps16
  go_upto_region 1 with fail
  obtain ⟨w1, hw1, XA, XB, b1, hs1⟩ := enter2 w 41 41 [.int .i64 t, .int .i64 b, .int .i64 x, .slice P n1 cp, .slice O n2 co] [.int .i64 t, .int .i64 b, .int .i64 x, .slice P' n1 cp', .slice O' n2 co']
  rw [hw1]
  obtain ⟨L, hL⟩ : ∃ L, w.heap.size = L := ⟨_, rfl⟩
  rw [hL] at XA XB hs1 ⊢
  have HA := Lib.hid XA; have HB := Lib.hid XB; have B1 := Lib.hid b1; have HLw := Lib.hid hL
  have T1 := Lib.hid (S1.out.on b1); have T2 := Lib.hid (S2.out.on b1); have T3 := Lib.hid (S3.out.on b1); have T4 := Lib.hid (S4.out.on b1)
  clear hw1 hL b1 XA XB hs1 S1 S2 S3 S4
  obtain ⟨a0, a1, a2, a3, a4⟩ := box5 HA.out
  obtain ⟨c0, c1, c2, c3, c4⟩ := box5 HB.out
  go_wp2_with fail
  go_loopw [5] (fun i wr => ∃ k : Nat, k ≤ n1 ∧ i = .int .i64 k ∧ Hid (Below w1.heap.size w1 wr)) (fun i _ => n1 - (intOf i).toNat)
  case atStart => exact ⟨0, Nat.zero_le _, rfl, (show Hid _ from Below.refl _ _)⟩
  case round =>
    clear a0 a1 a2 a3 a4 c0 c1 c2 c3 c4
    obtain ⟨k, hk, rfl, HW⟩ := hrel
    have HA2 := Lib.hid (HA.out.on HW.out); have HB2 := Lib.hid (HB.out.on HW.out)
    obtain ⟨a0, a1, a2, a3, a4⟩ := box5 HA2.out
    obtain ⟨c0, c1, c2, c3, c4⟩ := box5 HB2.out
    by_cases hlt : k < n1
    · obtain ⟨d, off, rfl, hc⟩ := sl_cell (T1.out.on HW.out) hlt
      obtain ⟨d', off', rfl, hc'⟩ := sl_cell (T3.out.on HW.out) hlt
      have q1 := hc k hlt; have q2 := hc' k hlt
      obtain ⟨y, hy⟩ : ∃ y, lp.getD k 0 = y := ⟨_, rfl⟩
      rw [hy] at q1 q2
      have yy : (y != y) = false := bne_self_eq_false _
      have i1 : (0 : Int) ≤ (k : Int) := by omega
      have i2 : (k : Int) < (n1 : Int) := by omega
      clear hc hc' hy
      go_wp2_with fail
      go_quiet (fail)
      go_wp2_with fail
      exact ⟨⟨k + 1, by omega, by congr 1, Lib.hid (below_drewN HW.out _)⟩, by simp [intOf]; omega⟩
    · obtain rfl : k = n1 := by omega
      go_wp2_with fail
      go_loopw [6] (fun i wy => ∃ j : Nat, j ≤ n2 ∧ i = .int .i64 j ∧ Hid (Below w1.heap.size w1 wy)) (fun i _ => n2 - (intOf i).toNat)
      case atStart => exact ⟨0, Nat.zero_le _, rfl, HW⟩
      case round =>
        clear a0 a1 a2 a3 a4 c0 c1 c2 c3 c4 HA2 HB2 HW
        obtain ⟨j, hj, rfl, HV⟩ := hrel
        have HA2 := Lib.hid (HA.out.on HV.out); have HB2 := Lib.hid (HB.out.on HV.out)
        obtain ⟨a0, a1, a2, a3, a4⟩ := box5 HA2.out
        obtain ⟨c0, c1, c2, c3, c4⟩ := box5 HB2.out
        by_cases hjt : j < n2
        · obtain ⟨d, off, rfl, hc⟩ := sl_cell (T2.out.on HV.out) hjt
          obtain ⟨d', off', rfl, hc'⟩ := sl_cell (T4.out.on HV.out) hjt
          have q1 := hc j hjt; have q2 := hc' j hjt
          obtain ⟨y, hy⟩ : ∃ y, lo.getD j 0 = y := ⟨_, rfl⟩
          rw [hy] at q1 q2
          have yy : (y != y) = false := bne_self_eq_false _
          have i1 : (0 : Int) ≤ (j : Int) := by omega
          have i2 : (j : Int) < (n2 : Int) := by omega
          clear hc hc' hy
          go_wp2_with fail
          go_quiet (fail)
          go_wp2_with fail
          exact ⟨⟨j + 1, by omega, by congr 1, Lib.hid (below_drewN HV.out _)⟩, by simp [intOf]; omega⟩
        · obtain rfl : j = n2 := by omega
          go_wp2_with fail
          go_ret
          exact ⟨rfl, by have := B1.out.trans (HV.out.mono B1.out.size); rw [HLw.out] at this; first | exact this | (rw [HLw.out]; exact this)⟩
end Go.Proofs.Ytpfpcnfodjmgcaa

namespace Go.Proofs.Ytpfpcnfodjmgcaa
open Go.RowKit

theorem in64_less {l o : List Int} (h : PWh.MidL l) (k : PWh.MidL o) : In64 (PWh.less l o) := by
  intro i hi
  rw [PWh.less_len] at hi
  rw [PWh.less_at hi]
  have h1 := h.at i; have h2 := k.at i
  unfold PWh.Mid at h1 h2
  omega

set_option maxHeartbeats 6400000 in
set_option maxRecDepth 100000 in
theorem rless_any {w : World} {t b x t' b' x' : Int} {lp lo lp' lo' : List Int} {p o p' o' : Value} (hp : VSl w p lp) (ho : VSl w o lo) (hp' : VSl w p' lp') (ho' : VSl w o' lo')
    (ht : PWh.Mid t) (hb : PWh.Mid b) (hx : PWh.Mid x) (ht' : PWh.Mid t') (hb' : PWh.Mid b') (hx' : PWh.Mid x') (h1 : PWh.MidL lp) (h2 : PWh.MidL lo) (h3 : PWh.MidL lp') (h4 : PWh.MidL lo') (hn : lp.length ≤ 900) (hn2 : lo.length ≤ 900) :
    Calls Try.prog 19 #[yrV t b x p o, yrV t' b' x' p' o'] w (YrR1 (t - t') (b - b') (x - x') (PWh.less lp lp') (PWh.less lo lo') w) := by
  obtain ⟨P, cp, rfl, -, -, s1⟩ := hp
  obtain ⟨O, co, rfl, -, -, s2⟩ := ho
  obtain ⟨P', cp', rfl, -, -, s3⟩ := hp'
  obtain ⟨O', co', rfl, -, -, s4⟩ := ho'
  have S1 := Lib.hid s1; have S2 := Lib.hid s2; have S3 := Lib.hid s3; have S4 := Lib.hid s4
  have M1 := Lib.hid h1; have M2 := Lib.hid h2; have M3 := Lib.hid h3; have M4 := Lib.hid h4
  have m3 := s3.2.2.1; have m4 := s4.2.2.1
  obtain ⟨n1, hn1⟩ : ∃ n, lp.length = n := ⟨_, rfl⟩
  obtain ⟨n2, hn2'⟩ : ∃ n, lo.length = n := ⟨_, rfl⟩
  obtain ⟨n3, hn3⟩ : ∃ n, lp'.length = n := ⟨_, rfl⟩
  obtain ⟨n4, hn4⟩ : ∃ n, lo'.length = n := ⟨_, rfl⟩
  have N1 := Lib.hid hn1; have N2 := Lib.hid hn2'; have N3 := Lib.hid hn3; have N4 := Lib.hid hn4
  rw [hn1] at S1 hn ⊢; rw [hn2'] at S2 hn2 ⊢; rw [hn3] at S3 m3 ⊢; rw [hn4] at S4 m4 ⊢
  obtain ⟨t1, t2⟩ := ht; obtain ⟨b1', b2'⟩ := hb; obtain ⟨x1, x2⟩ := hx; obtain ⟨t3, t4⟩ := ht'; obtain ⟨b3, b4⟩ := hb'; obtain ⟨x3, x4⟩ := hx'
  obtain ⟨ZT, hZT⟩ : ∃ z, t - t' = z := ⟨_, rfl⟩
  obtain ⟨ZB, hZB⟩ : ∃ z, b - b' = z := ⟨_, rfl⟩
  obtain ⟨ZX, hZX⟩ : ∃ z, x - x' = z := ⟨_, rfl⟩
  rw [hZT, hZB, hZX]
  unfold yrV
  clear s1 s2 s3 s4 hn1 hn2' hn3 hn4 h1 h2 h3 h4
  go_enter Try.func19, Try.ntmps19
  go_upto_region 1 with fail
  obtain ⟨w1, hw1, XA, XB, XZ, b1, hs1⟩ := enter3 w 41 41 41 [.int .i64 t, .int .i64 b, .int .i64 x, .slice P n1 cp, .slice O n2 co] [.int .i64 t', .int .i64 b', .int .i64 x', .slice P' n3 cp', .slice O' n4 co'] [.int .i64 0, .int .i64 0, .int .i64 0, .slice none 0 0, .slice none 0 0]
  rw [hw1]
  obtain ⟨L, hL⟩ : ∃ L, w.heap.size = L := ⟨_, rfl⟩
  rw [hL] at XA XB XZ hs1 ⊢
  have HA := Lib.hid XA; have HB := Lib.hid XB; have HZ := Lib.hid XZ; have B1 := Lib.hid b1; have HLw := Lib.hid hL
  have T1 := Lib.hid (S1.out.on b1); have T2 := Lib.hid (S2.out.on b1); have T3 := Lib.hid (S3.out.on b1); have T4 := Lib.hid (S4.out.on b1)
  have HS1 := Lib.hid hs1
  clear hw1 hL b1 XA XB XZ hs1 S1 S2 S3 S4
  obtain ⟨a0, a1, a2, a3, a4⟩ := box5 HA.out
  obtain ⟨c0, c1, c2, c3, c4⟩ := box5 HB.out
  go_upto_region 2 with fail
  have YB := YrB.start w1 41 ZT ZB ZX
  have bz : Below w1.heap.size w1 (w1.alloc (.cells #[.int .i64 ZT, .int .i64 ZB, .int .i64 ZX, .slice none 0 0, .slice none 0 0] 41)) := (Below.refl _ _).alloc (Nat.le_refl _) _
  obtain ⟨D, hD⟩ : ∃ D, w1.heap.size = D := ⟨_, rfl⟩
  have hLD : L + 2 < D := by have := HS1.out; omega
  have HA4 := Lib.hid (HA.out.on bz); have HB4 := Lib.hid (HB.out.on bz); have HZ4 := Lib.hid (HZ.out.on bz); have B4 := Lib.hid (below_step B1.out bz)
  have T1' := Lib.hid (T1.out.on bz); have T2' := Lib.hid (T2.out.on bz); have T3' := Lib.hid (T3.out.on bz); have T4' := Lib.hid (T4.out.on bz)
  have L1 := Lib.hid (fun ad h h0 => T1.out.lt h0 ad h); have L2 := Lib.hid (fun ad h h0 => T2.out.lt h0 ad h); have L3 := Lib.hid (fun ad h h0 => T3.out.lt h0 ad h); have L4 := Lib.hid (fun ad h h0 => T4.out.lt h0 ad h)
  rw [hD] at YB L1 L2 L3 L4 ⊢
  generalize w1.alloc (.cells #[.int .i64 ZT, .int .i64 ZB, .int .i64 ZX, .slice none 0 0, .slice none 0 0] 41) = w4 at *
  have YB4 := Lib.hid YB
  clear YB bz HA HB HZ B1 hD HS1 a0 a1 a2 a3 a4 c0 c1 c2 c3 c4 T1 T2 T3 T4 t1 t2 b1' b2' x1 x2 t3 t4 b3 b4 x3 x4 hZT hZB hZX
  obtain ⟨a0, a1, a2, a3, a4⟩ := box5 HA4.out
  obtain ⟨c0, c1, c2, c3, c4⟩ := box5 HB4.out
  go_wp2_with fail
  go_loopw [6] (fun i wr => ∃ (k np cp no co : Nat) (P O : Option Addr), k ≤ n1 ∧ i = .int .i64 k ∧ Hid (YrB wr D (D + 1) ZT ZB ZX (.slice P np cp) (.slice O no co) ((PWh.less lp lp').take k) []) ∧ Hid (Below D w4 wr)) (fun i _ => n1 - (intOf i).toNat)
  case atStart => exact ⟨0, 0, 0, 0, 0, none, none, Nat.zero_le _, rfl, YB4, (show Hid _ from Below.refl _ _)⟩
  case round =>
    clear a0 a1 a2 a3 a4 c0 c1 c2 c3 c4 YB4
    obtain ⟨k, np, cp1, no, co1, P0, O0, hk, rfl, HY, HW⟩ := hrel
    have HA5 := Lib.hid (HA4.out.keep HW.out (by omega)); have HB5 := Lib.hid (HB4.out.keep HW.out (by omega))
    obtain ⟨a0, a1, a2, a3, a4⟩ := box5 HA5.out
    obtain ⟨c0, c1, c2, c3, c4⟩ := box5 HB5.out
    by_cases hlt : k < n1
    · obtain ⟨d, off, rfl, hc⟩ := sl_cell (T1'.out) hlt
      have q1 := (HW.out.cell (p := ⟨d, off + k, none⟩) (show d < D from L1.out ⟨d, off, none⟩ rfl (by omega))).trans (hc k hlt)
      have y1 := M1.out.at k
      have HP0 := Lib.hid (PWh.less_next (o := lp') (show k < lp.length by rw [N1.out]; exact hlt))
      have HLP := Lib.hid (show ((PWh.less lp lp').take k).length = k by rw [List.length_take, PWh.less_len, N1.out]; omega)
      obtain ⟨LP, hLP⟩ : ∃ LP, (PWh.less lp lp').take k = LP := ⟨_, rfl⟩
      rw [hLP] at HP0 HLP HY
      obtain ⟨y, hy⟩ : ∃ y, lp.getD k 0 = y := ⟨_, rfl⟩
      rw [hy] at q1 y1 HP0
      obtain ⟨y11, y12⟩ := y1
      have i1 : (0 : Int) ≤ (k : Int) := by omega
      have i2 : (k : Int) < (n1 : Int) := by omega
      clear hc hy hLP
      obtain ⟨e0, e1, e2, e3, e4⟩ := box5 HY.out.box
      obtain ⟨f0, f1, f2, f3, f4⟩ := box5f HY.out.box
      by_cases h3 : k < n3
      · obtain ⟨d', off', rfl, hc'⟩ := sl_cell (T3'.out) h3
        have q2 := (HW.out.cell (p := ⟨d', off' + k, none⟩) (show d' < D from L3.out ⟨d', off', none⟩ rfl (by omega))).trans (hc' k h3)
        have z1 := M3.out.at k
        obtain ⟨z, hz⟩ : ∃ y, lp'.getD k 0 = y := ⟨_, rfl⟩
        rw [hz] at q2 z1 HP0
        obtain ⟨z11, z12⟩ := z1
        have i3 : (k : Int) < (n3 : Int) := by omega
        obtain ⟨v, hv⟩ : ∃ v, y - z = v := ⟨_, rfl⟩
        rw [hv] at HP0
        clear hc' hz
        go_wp2_with (at_builtin; refine append_apart rfl _ _ rfl (D + 1) (.slice P0 np cp1) _ LP v (by rfl) HY.out.own (by rfl) (by rw [HLP.out]; omega) HY.out.le ?_)
        intro p' w6 hown6 hb6 hk6
        obtain ⟨P1, cpn, rfl⟩ := own_shape hown6
        have hY := HY.out.push hown6 hb6 hk6
        rw [← HP0.out] at hY
        have HY6 := Lib.hid hY
        have HX6 := Lib.hid (HY.out.box.keep hb6 HY.out.lt)
        have HW6 := Lib.hid ((HW.out.trans (hb6.mono (Nat.le_succ D))).setCell (p := ⟨D, 3, none⟩) (Nat.le_refl D) (.slice P1 (LP.length + 1) cpn))
        clear hown6 hb6 hk6 hY e0 e1 e2 e3 e4 f0 f1 f2 f3 f4 HP0 HY HW y11 y12 z11 z12 hv
        obtain ⟨e0, e1, e2, e3, e4⟩ := box5 HX6.out
        obtain ⟨f0, f1, f2, f3, f4⟩ := box5f HX6.out
        go_wp2_with fail
        exact ⟨⟨k + 1, _, _, _, _, _, _, by omega, by congr 1, HY6, HW6⟩, by simp [intOf]; omega⟩
      · have hz : lp'.getD k 0 = 0 := by have := N3.out; simp [List.getD, show lp'.length ≤ k by omega]
        rw [hz, Int.sub_zero] at HP0
        have i3 : ¬ (k : Int) < (n3 : Int) := by omega
        clear hz
        go_wp2_with (at_builtin; refine append_apart rfl _ _ rfl (D + 1) (.slice P0 np cp1) _ LP y (by rfl) HY.out.own (by rfl) (by rw [HLP.out]; omega) HY.out.le ?_)
        intro p' w6 hown6 hb6 hk6
        obtain ⟨P1, cpn, rfl⟩ := own_shape hown6
        have hY := HY.out.push hown6 hb6 hk6
        rw [← HP0.out] at hY
        have HY6 := Lib.hid hY
        have HX6 := Lib.hid (HY.out.box.keep hb6 HY.out.lt)
        have HW6 := Lib.hid ((HW.out.trans (hb6.mono (Nat.le_succ D))).setCell (p := ⟨D, 3, none⟩) (Nat.le_refl D) (.slice P1 (LP.length + 1) cpn))
        clear hown6 hb6 hk6 hY e0 e1 e2 e3 e4 f0 f1 f2 f3 f4 HP0 HY HW y11 y12
        obtain ⟨e0, e1, e2, e3, e4⟩ := box5 HX6.out
        obtain ⟨f0, f1, f2, f3, f4⟩ := box5f HX6.out
        go_wp2_with fail
        exact ⟨⟨k + 1, _, _, _, _, _, _, by omega, by congr 1, HY6, HW6⟩, by simp [intOf]; omega⟩
    · obtain rfl : k = n1 := by omega
      have HTP : Hid ((PWh.less lp lp').take k = PWh.less lp lp') := Lib.hid (List.take_of_length_le (by rw [PWh.less_len, N1.out]; omega))
      rw [HTP.out] at HY
      go_wp2_with fail
      go_loopw [8] (fun i wy => ∃ (j np cp no co : Nat) (P O : Option Addr), j ≤ n2 ∧ i = .int .i64 j ∧ Hid (YrB wy D (D + 1) ZT ZB ZX (.slice P np cp) (.slice O no co) (PWh.less lp lp') ((PWh.less lo lo').take j)) ∧ Hid (Below D w4 wy)) (fun i _ => n2 - (intOf i).toNat)
      case atStart => exact ⟨0, _, _, _, _, _, _, Nat.zero_le _, rfl, HY, HW⟩
      case round =>
        clear a0 a1 a2 a3 a4 c0 c1 c2 c3 c4 HY HW HA5 HB5
        obtain ⟨j, np, cp1, no, co1, P0, O0, hj, rfl, HY2, HV⟩ := hrel
        have HA5 := Lib.hid (HA4.out.keep HV.out (by omega)); have HB5 := Lib.hid (HB4.out.keep HV.out (by omega))
        obtain ⟨a0, a1, a2, a3, a4⟩ := box5 HA5.out
        obtain ⟨c0, c1, c2, c3, c4⟩ := box5 HB5.out
        by_cases hlt : j < n2
        · obtain ⟨d, off, rfl, hc⟩ := sl_cell (T2'.out) hlt
          have q1 := (HV.out.cell (p := ⟨d, off + j, none⟩) (show d < D from L2.out ⟨d, off, none⟩ rfl (by omega))).trans (hc j hlt)
          have y1 := M2.out.at j
          have HO0 := Lib.hid (PWh.less_next (o := lo') (show j < lo.length by rw [N2.out]; exact hlt))
          have HLO := Lib.hid (show ((PWh.less lo lo').take j).length = j by rw [List.length_take, PWh.less_len, N2.out]; omega)
          obtain ⟨LO, hLO⟩ : ∃ LO, (PWh.less lo lo').take j = LO := ⟨_, rfl⟩
          rw [hLO] at HO0 HLO HY2
          obtain ⟨y, hy⟩ : ∃ y, lo.getD j 0 = y := ⟨_, rfl⟩
          rw [hy] at q1 y1 HO0
          obtain ⟨y11, y12⟩ := y1
          have i1 : (0 : Int) ≤ (j : Int) := by omega
          have i2 : (j : Int) < (n2 : Int) := by omega
          clear hc hy hLO
          obtain ⟨e0, e1, e2, e3, e4⟩ := box5 HY2.out.box
          obtain ⟨f0, f1, f2, f3, f4⟩ := box5f HY2.out.box
          by_cases h4 : j < n4
          · obtain ⟨d', off', rfl, hc'⟩ := sl_cell (T4'.out) h4
            have q2 := (HV.out.cell (p := ⟨d', off' + j, none⟩) (show d' < D from L4.out ⟨d', off', none⟩ rfl (by omega))).trans (hc' j h4)
            have z1 := M4.out.at j
            obtain ⟨z, hz⟩ : ∃ y, lo'.getD j 0 = y := ⟨_, rfl⟩
            rw [hz] at q2 z1 HO0
            obtain ⟨z11, z12⟩ := z1
            have i3 : (j : Int) < (n4 : Int) := by omega
            obtain ⟨v, hv⟩ : ∃ v, y - z = v := ⟨_, rfl⟩
            rw [hv] at HO0
            clear hc' hz
            go_wp2_with (at_builtin; refine append_apart rfl _ _ rfl (D + 1) (.slice O0 no co1) _ LO v (by rfl) HY2.out.own' (by rfl) (by rw [HLO.out]; omega) HY2.out.le ?_)
            intro p' w6 hown6 hb6 hk6
            obtain ⟨P1, cpn, rfl⟩ := own_shape hown6
            have hY := HY2.out.push' hown6 hb6 hk6
            rw [← HO0.out] at hY
            have HY6 := Lib.hid hY
            have HX6 := Lib.hid (HY2.out.box.keep hb6 HY2.out.lt)
            have HW6 := Lib.hid ((HV.out.trans (hb6.mono (Nat.le_succ D))).setCell (p := ⟨D, 4, none⟩) (Nat.le_refl D) (.slice P1 (LO.length + 1) cpn))
            clear hown6 hb6 hk6 hY e0 e1 e2 e3 e4 f0 f1 f2 f3 f4 HO0 HY2 HV y11 y12 z11 z12 hv
            obtain ⟨e0, e1, e2, e3, e4⟩ := box5 HX6.out
            obtain ⟨f0, f1, f2, f3, f4⟩ := box5f HX6.out
            go_wp2_with fail
            exact ⟨⟨j + 1, _, _, _, _, _, _, by omega, by congr 1, HY6, HW6⟩, by simp [intOf]; omega⟩
          · have hz : lo'.getD j 0 = 0 := by have := N4.out; simp [List.getD, show lo'.length ≤ j by omega]
            rw [hz, Int.sub_zero] at HO0
            have i3 : ¬ (j : Int) < (n4 : Int) := by omega
            clear hz
            go_wp2_with (at_builtin; refine append_apart rfl _ _ rfl (D + 1) (.slice O0 no co1) _ LO y (by rfl) HY2.out.own' (by rfl) (by rw [HLO.out]; omega) HY2.out.le ?_)
            intro p' w6 hown6 hb6 hk6
            obtain ⟨P1, cpn, rfl⟩ := own_shape hown6
            have hY := HY2.out.push' hown6 hb6 hk6
            rw [← HO0.out] at hY
            have HY6 := Lib.hid hY
            have HX6 := Lib.hid (HY2.out.box.keep hb6 HY2.out.lt)
            have HW6 := Lib.hid ((HV.out.trans (hb6.mono (Nat.le_succ D))).setCell (p := ⟨D, 4, none⟩) (Nat.le_refl D) (.slice P1 (LO.length + 1) cpn))
            clear hown6 hb6 hk6 hY e0 e1 e2 e3 e4 f0 f1 f2 f3 f4 HO0 HY2 HV y11 y12
            obtain ⟨e0, e1, e2, e3, e4⟩ := box5 HX6.out
            obtain ⟨f0, f1, f2, f3, f4⟩ := box5f HX6.out
            go_wp2_with fail
            exact ⟨⟨j + 1, _, _, _, _, _, _, by omega, by congr 1, HY6, HW6⟩, by simp [intOf]; omega⟩
        · obtain rfl : j = n2 := by omega
          have HTO : Hid ((PWh.less lo lo').take j = PWh.less lo lo') := Lib.hid (List.take_of_length_le (by rw [PWh.less_len, N2.out]; omega))
          rw [HTO.out] at HY2
          have HXZ := Lib.hid (HZ4.out.keep HV.out (by omega))
          have HVw := Lib.hid (B4.out.trans (HV.out.mono (show w.heap.size ≤ D by have := HLw.out; omega)))
          clear c0 c1 c2 c3 c4 HA5 HB5
          obtain ⟨f0, f1, f2, f3, f4⟩ := box5f HXZ.out
          obtain ⟨e0, e1, e2, e3, e4⟩ := box5 HXZ.out
          obtain ⟨g0, g1, g2, g3, g4⟩ := box5 HY2.out.box
          obtain ⟨wz, hw, rb, ON⟩ := store5 HXZ.out (.int .i64 ZT) (.int .i64 ZB) (.int .i64 ZX) (.slice P0 np cp1) (.slice O0 no co1)
          obtain ⟨k0', k1', k2', k3', k4'⟩ := box5 rb
          have hY := ((((HY2.out.far (H := L + 2) (j := 0) (v := .int .i64 ZT) hLD).far (H := L + 2) (j := 1) (v := .int .i64 ZB) hLD).far (H := L + 2) (j := 2) (v := .int .i64 ZX) hLD).far (H := L + 2) (j := 3) (v := .slice P0 np cp1) hLD).far (H := L + 2) (j := 4) (v := .slice O0 no co1) hLD
          rw [hw] at hY
          rw [← hw] at k0' k1' k2' k3' k4'
          have HWz := Lib.hid hw
          have BZ := Lib.hid (ON.below (B := w.heap.size) (by have := HLw.out; omega) HVw.out)
          have HYz := Lib.hid hY
          clear hw rb ON hY
          go_wp2_with fail
          (try simp only [Exit.inBlock, Exit.then])
          refine bodyPost_ret (by simp [results, Try.results19, go_sem, k0', k1', k2', k3', k4']; try rfl) rfl ?_
          rw [HWz.out]
          have hp6 : (PWh.less lp lp').length ≤ 1000 := by rw [PWh.less_len, N1.out]; omega
          have ho6 : (PWh.less lo lo').length ≤ 1000 := by rw [PWh.less_len, N2.out]; omega
          exact ⟨_, _, rfl, vsl_of_own HYz.out.own (in64_less M1.out M3.out) hp6, vsl_of_own HYz.out.own' (in64_less M2.out M4.out) ho6, BZ.out, fresh_own HYz.out.own (by rw [HLw.out]; omega), fresh_own HYz.out.own' (by rw [HLw.out]; omega)⟩
end Go.Proofs.Ytpfpcnfodjmgcaa
