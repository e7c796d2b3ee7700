/-
  A list's copy; what withhold answers: has a year's list a member a fund; the members of a list, less those of a year's.
  What withhold.Step answers where it refuses.
  What withhold.Step answers of a right scheme and amounts that are near.
  What withhold.Step answers of a right scheme, amounts that are near, and lists that fit.
  Stage 14's statements: a scheme as the document's; is a scheme small?
  The fixed answer of stage 14's statements is true.
-/
import Derived.Test.YtpfpcnfodjmgcaaGA
import Derived.Test.YtpfpcnfodjmgcaaGB
import Derived.Lib.SliceRun
import Derived.Deep.RegionHeld3
import Derived.RegionTactic

namespace Go.Proofs.Ytpfpcnfodjmgcaa
open Go.RowKit

theorem own_none (w : World) : (w.alloc (.cells #[] 3)).ownsRow w.heap.size 3 1 (.slice (some ⟨w.heap.size, 0, none⟩) 0 0) 0 (cellsOfInts []) := by
  have := World.ownsRow_lit (base := w.heap.size) (e := 3) (size := 1) w #[] 0 (Nat.le_refl _) (by unfold maxLen; omega) (by simp)
  exact this

set_option maxRecDepth 100000 in
/-- A copy: a row of its own. -/
theorem clone_any {A : Option Addr} {c : Nat} {l : List Int} {w : World} (hs : Sl w A l.length l) (hc : A = none → c = 0) (hn : l.length ≤ 900) :
    Calls Try.prog 35 #[.slice A l.length c] w fun e w' => ∃ B cap, e = .returned (.slice B l.length cap) ∧ w'.ownsRow w.heap.size 3 1 (.slice B l.length cap) l.length (cellsOfInts l) ∧ Below w.heap.size w w' := by
  have HS := Lib.hid hs
  obtain ⟨n, hn'⟩ : ∃ n, l.length = n := ⟨_, rfl⟩
  rw [hn'] at hn HS ⊢
  have HN := Lib.hid hn'
  clear hs hn'
  have q22 : ∀ (w : World) (a : Option Addr) (n c n' c' : Nat), (binOp .eql 28 (.slice a n c) (.slice none n' c')).run Try.prog w = .ok (.bool a.isNone) w := fun w a n c n' c' => Lib.run_eql_slice_nil w _ _ a n c n' c' Try.underlying28
  cases A with
  | none =>
    obtain rfl := hc rfl
    have h0 : n = 0 := by
      rcases HS.out.2.2.2 with h | ⟨b, off, e, _⟩
      · exact h
      · cases e
    subst h0
    go_enter Try.func35, Try.ntmps35
    go_wp2_with fail
    go_ret
    have h0 := HN.out
    obtain rfl : l = [] := List.eq_nil_of_length_eq_zero h0
    exact ⟨none, 0, rfl, ⟨rfl, .inl ⟨rfl, rfl⟩⟩, Below.refl _ _⟩
  | some ad =>
    have HS2 := Lib.hid (HS.out.on ((Below.refl w.heap.size w).alloc (Nat.le_refl _) (.cells #[] 3)))
    have HO := Lib.hid (own_none w)
    clear HS
    go_enter Try.func35, Try.ntmps35
    go_wp2_with (at_builtin; refine append_sl rfl _ _ rfl w.heap.size _ 0 [] (by rfl) HO.out (some ad) n c l (by rfl) hc HS2.out (by omega) (by simp) ?_)
    intro v' w1 hown hg
    obtain ⟨B, cap, rfl⟩ := own_shape hown
    have b1 : Below w.heap.size w w1 := ((Below.refl w.heap.size w).alloc (Nat.le_refl _) (.cells #[] 3)).grown hg (by simp) (fun k hk => (HO.out.lt k hk).1)
    have HO1 := Lib.hid hown
    have B1 := Lib.hid b1
    clear hown hg b1 HO HS2
    go_wp2_with fail
    go_ret
    exact ⟨B, cap, rfl, HO1.out, B1.out⟩

theorem listof_yes {A : Option Addr} {n c m : Nat} (w : World) (h : n = 0 ∨ n = m) : Calls Try.prog 28 #[.slice A n c, .int .i64 m] w fun e w' => e = .returned (.bool true) ∧ w = w' := by
  by_cases h0 : n = 0
  · subst h0
    clear h
    go_enter Try.func28, Try.ntmps28
    go_wp2_with fail
    go_ret
    exact ⟨by simp, rfl⟩
  · obtain rfl : n = m := by omega
    have e0 : ((n : Int) == 0) = false := by rw [beq_eq_false_iff_ne]; omega
    have e1 : ((n : Int) == (n : Int)) = true := beq_self_eq_true _
    clear h h0
    go_enter Try.func28, Try.ntmps28
    go_wp2_with fail
    go_ret
    exact ⟨by simp, rfl⟩
theorem listof_no {A : Option Addr} {n c m : Nat} (w : World) (h : ¬ (n = 0 ∨ n = m)) : Calls Try.prog 28 #[.slice A n c, .int .i64 m] w fun e w' => e = .returned (.bool false) ∧ w = w' := by
  have e0 : ((n : Int) == 0) = false := by rw [beq_eq_false_iff_ne]; omega
  have e1 : ((n : Int) == (m : Int)) = false := by rw [beq_eq_false_iff_ne]; omega
  clear h
  go_enter Try.func28, Try.ntmps28
  go_wp2_with fail
  go_ret
  exact ⟨rfl, rfl⟩

/-- What has been taken off so far. -/
def lessTo (l o : List Int) (k : Nat) (L : List Int) : Prop := ∀ t, t < l.length → L.getD t 0 = if t < k then l.getD t 0 - o.getD t 0 else l.getD t 0
theorem lessTo_next {l o L : List Int} {k : Nat} {z : Int} (h : lessTo l o k L) (hL : L.length = l.length) (hk : k < l.length) (hz : l.getD k 0 - o.getD k 0 = z) : lessTo l o (k + 1) (L.set k z) := by
  intro t ht
  rw [set_get hL hk]
  by_cases e : t = k
  · subst e; rw [if_pos rfl, if_pos (by omega), hz]
  · rw [if_neg e, h t ht]
    by_cases e2 : t < k
    · rw [if_pos e2, if_pos (by omega)]
    · rw [if_neg e2, if_neg (by omega)]

set_option maxHeartbeats 3200000 in
set_option maxRecDepth 100000 in
theorem wless_any {w : World} {lp lo : List Int} {p o : Value} (hp : VSl w p lp) (ho : VSl w o lo) (hl : lo.length = 0 ∨ lo.length = lp.length) (h1 : PWh.MidL lp) (h2 : PWh.MidL lo) (hn : lp.length ≤ 900) :
    Calls Try.prog 29 #[p, o] w fun e w' => ∃ v, e = .returned v ∧ VSl w' v (PWh.less lp lo) ∧ Below w.heap.size w w' ∧ Fresh w v := by
  obtain ⟨P, cp, rfl, np, -, s1⟩ := hp
  obtain ⟨O, co, rfl, -, -, s2⟩ := ho
  have HC := Lib.hid (clone_any s1 np hn)
  have S2 := Lib.hid s2
  have M1 := Lib.hid h1; have M2 := Lib.hid h2
  have hI : In64 lp := fun i hi => by have := h1 i hi; unfold PWh.Mid at this; omega
  have HI := Lib.hid hI
  by_cases h0 : lo.length = 0
  · obtain rfl : lo = [] := List.eq_nil_of_length_eq_zero h0
    rw [PWh.less_nil]
    clear s1 s2 h1 h2 hI hl h0 M1 M2 np
    simp only [List.length_nil]
    go_enter Try.func29, Try.ntmps29
    go_wp2_with fail
    refine HC.out.mono ?_
    rintro _ w1 ⟨B, cap, rfl, hown, b1⟩
    have V1 := Lib.hid (vsl_of_own hown HI.out (by omega))
    have FR := Lib.hid (show Fresh w (.slice B lp.length cap) from fun ad n c e => by injection e with e1 _ _; exact own_from hown ad e1)
    have B1 := Lib.hid b1
    clear hown b1 HC
    go_wp2_with fail
    go_loopw [11] (fun i wr => i = .int .i64 0 ∧ wr = w1) (fun _ _ => 0)
    case atStart => exact ⟨rfl, rfl⟩
    case round =>
      obtain ⟨rfl, rfl⟩ := hrel
      go_wp2_with fail
      go_ret
      exact ⟨_, rfl, V1.out, B1.out, FR.out⟩
  · have hlen : lo.length = lp.length := by omega
    have HL := Lib.hid hlen
    obtain ⟨n, hn'⟩ : ∃ n, lp.length = n := ⟨_, rfl⟩
    have HN := Lib.hid hn'
    rw [hlen, hn'] at S2 ⊢
    rw [hn'] at HC hn
    have hn0 : 0 < n := by omega
    clear s1 s2 h1 h2 hI hl h0 np hlen hn'
    go_enter Try.func29, Try.ntmps29
    go_wp2_with fail
    refine HC.out.mono ?_
    rintro _ w1 ⟨B, cap, rfl, hown, b1⟩
    obtain ⟨g, hB, hg⟩ : ∃ g, B = some ⟨g, 0, none⟩ ∧ w.heap.size ≤ g := by
      rcases hown.2 with ⟨_, h⟩ | ⟨g, _, _, h, hb, _⟩
      · omega
      · injection h with h; exact ⟨g, h, hb⟩
    subst hB
    have hR : Rw w1 g n lp := ⟨HN.out, fun t ht => ⟨by
      have := hown.cells (g := g) rfl t _ (cellsOfInts_get lp t (by rw [HN.out]; exact ht))
      rwa [show (⟨g, 0, none⟩ : Addr).add t = ⟨g, t, none⟩ by unfold Addr.add; split <;> simp_all] at this, hown.frozenAt t⟩⟩
    have hcap : n ≤ cap := by
      rcases hown.2 with ⟨_, h⟩ | ⟨g', cap', _, h, _, _, h3, _⟩
      · omega
      · injection h with _ _ h; omega
    have HR := Lib.hid hR
    have B1 := Lib.hid b1
    have S3 := Lib.hid (S2.out.on b1)
    have HG := Lib.hid (fun ad (h : O = some ad) => S2.out.lt hn0 ad h)
    clear hown b1 HC hR S2
    go_wp2_with fail
    go_loopw [11] (fun i wr => ∃ (k : Nat) (L : List Int), k ≤ n ∧ i = .int .i64 k ∧ Hid (Rw wr g n L) ∧ Hid (lessTo lp lo k L) ∧ Hid (Below w.heap.size w1 wr)) (fun i _ => n - (intOf i).toNat)
    case atStart => exact ⟨0, lp, Nat.zero_le _, rfl, HR, (show Hid _ from fun t _ => by rw [if_neg (by omega)]), (show Hid _ from Below.refl _ _)⟩
    case round =>
      clear HR
      obtain ⟨k, L, hk, rfl, HR, HT, HW⟩ := hrel
      by_cases hlt : k < n
      · obtain ⟨d, off, rfl, hc⟩ := sl_cell S3.out hlt
        have q1 := (HW.out.cell (p := ⟨d, off + k, none⟩) (show d < w.heap.size from HG.out ⟨d, off, none⟩ rfl)).trans (hc k hlt)
        obtain ⟨q2, q3⟩ := HR.out.2 k hlt
        have hsz := World.block_lt_of_cell? wr _ q2
        have y1 := M1.out.at k; have z1 := M2.out.at k
        have hv := HT.out k (by rw [HN.out]; exact hlt)
        rw [if_neg (Nat.lt_irrefl k)] at hv
        obtain ⟨y, hy⟩ : ∃ y, lp.getD k 0 = y := ⟨_, rfl⟩
        obtain ⟨z, hz⟩ : ∃ y, lo.getD k 0 = y := ⟨_, rfl⟩
        obtain ⟨v, hv'⟩ : ∃ v, y - z = v := ⟨_, rfl⟩
        have HT2 := Lib.hid (lessTo_next (z := v) HT.out (by rw [HR.out.1, HN.out]) (by rw [HN.out]; exact hlt) (by rw [hy, hz, hv']))
        have HR2 := Lib.hid (HR.out.set hlt v)
        have HW2 := Lib.hid (HW.out.setCell (p := ⟨g, k, none⟩) hg (.int .i64 v))
        rw [hy] at y1 hv; rw [hz] at z1 q1
        rw [hv] at q2
        obtain ⟨y11, y12⟩ := y1; obtain ⟨z11, z12⟩ := z1
        have i1 : (0 : Int) ≤ (k : Int) := by omega
        have i2 : (k : Int) < (n : Int) := by omega
        clear hy hz hv hc
        go_wp2_with fail
        exact ⟨⟨k + 1, _, by omega, by congr 1, HR2, HT2, HW2⟩, by simp [intOf]; omega⟩
      · obtain rfl : k = n := by omega
        have hll : (PWh.less lp lo).length = k := by rw [PWh.less_len, HN.out]
        have V1 : VSl wr (.slice (some ⟨g, 0, none⟩) k cap) (PWh.less lp lo) := by
          refine ⟨some ⟨g, 0, none⟩, cap, by rw [hll], (fun e => by cases e), by rw [hll]; exact hcap, ?_⟩
          rw [hll]
          exact HR.out.sl hll (fun t ht => by
            rw [HT.out t (by rw [HN.out]; exact ht), if_pos ht, PWh.less_at (by rw [HN.out]; exact ht)]) (in64_less M1.out M2.out) (by omega)
        have HV := Lib.hid V1
        have BZ := Lib.hid (B1.out.trans HW.out)
        clear V1 hll
        go_wp2_with fail
        go_ret
        exact ⟨_, rfl, HV.out, BZ.out, fun ad n c e => by injection e with e1 _ _; injection e1 with e1; rw [← e1]; exact hg⟩
end Go.Proofs.Ytpfpcnfodjmgcaa

namespace Go.Proofs.Ytpfpcnfodjmgcaa
open Go.RowKit

theorem near_bool (x : Int) : ∃ y : Bool, y = true ↔ Nr x := by
  by_cases h : Nr x
  · exact ⟨true, fun _ => h, fun _ => rfl⟩
  · exact ⟨false, (fun k => by cases k), fun k => absurd k h⟩

set_option maxHeartbeats 3200000 in
set_option maxRecDepth 100000 in
theorem wstep_wrong {A F P O : Option Addr} {n ca m cf np cp no co : Nat} {a r : Nat → Int} {l : List PWh.Fund} {w : World} {yt yb yx t b : Int} (hA : SlP w A n a r) (hF : SlF w F m l) (hR : ¬ PWh.Rt a r n l) :
    Calls Try.prog 18 #[.agg #[.slice A n ca, .slice F m cf], .agg #[.int .i64 yt, .int .i64 yb, .int .i64 yx, .slice P np cp, .slice O no co], .int .i64 t, .int .i64 b] w (StpR 0 0 0 [] [] 0 0 0 [] [] 1 w) := by
  have HR : Hid (∀ w', Below w.heap.size w w' → Calls Try.prog 14 #[.agg #[.slice A n ca, .slice F m cf]] w' fun e w'' => e = .returned (.bool false) ∧ Below w'.heap.size w' w'') := Lib.hid (fun w' h => wright_any (hA.on h) (hF.on h) ⟨fun k => (by cases k), fun k => absurd k hR⟩)
  clear hA hF hR
  go_enter Try.func18, Try.ntmps18
  go_upto_region 1 with fail
  obtain ⟨w1, hw1, XS, XY, XZ, XQ, b1, hs1⟩ := enter4 w 25 30 30 30 [.slice A n ca, .slice F m cf] [.int .i64 yt, .int .i64 yb, .int .i64 yx, .slice P np cp, .slice O no co] [.int .i64 0, .int .i64 0, .int .i64 0, .slice none 0 0, .slice none 0 0] [.int .i64 0, .int .i64 0, .int .i64 0, .slice none 0 0, .slice none 0 0]
  rw [hw1]
  obtain ⟨L, hL⟩ : ∃ L, w.heap.size = L := ⟨_, rfl⟩
  rw [hL] at XS XY XZ XQ hs1 ⊢
  have XS1 := Lib.hid XS; have XY1 := Lib.hid XY; have XZ1 := Lib.hid XZ; have XQ1 := Lib.hid XQ; have B1 := Lib.hid b1; have HLw := Lib.hid hL
  clear hw1 hL b1 XS XY XZ XQ hs1
  obtain ⟨c0, c1⟩ := box2 XS1.out
  go_wp2_with fail
  refine (HR.out _ B1.out).mono ?_
  rintro _ w2 ⟨rfl, b2⟩
  have XS2 := Lib.hid (XS1.out.on b2); have XY2 := Lib.hid (XY1.out.on b2); have XZ2 := Lib.hid (XZ1.out.on b2); have XQ2 := Lib.hid (XQ1.out.on b2); have B2 := Lib.hid (below_step B1.out b2)
  clear b2 XS1 XY1 XZ1 XQ1 B1 c0 c1
  obtain ⟨f0, f1, f2, f3, f4⟩ := box5f XZ2.out
  obtain ⟨e0, e1, e2, e3, e4⟩ := box5 XZ2.out
  obtain ⟨f5, f6, f7, f8, f9⟩ := box5f XQ2.out
  obtain ⟨e5, e6, e7, e8, e9⟩ := box5 XQ2.out
  obtain ⟨wz, hw, rb, rq, ON⟩ := store55 XZ2.out XQ2.out (by omega) (.int .i64 0) (.int .i64 0) (.int .i64 0) (.slice none 0 0) (.slice none 0 0) (.int .i64 0) (.int .i64 0) (.int .i64 0) (.slice none 0 0) (.slice none 0 0)
  obtain ⟨k0', k1', k2', k3', k4'⟩ := box5 rb
  obtain ⟨k5', k6', k7', k8', k9'⟩ := box5 rq
  rw [← hw] at k0' k1' k2' k3' k4' k5' k6' k7' k8' k9'
  have HW := Lib.hid hw
  have BZ := Lib.hid (ON (B := w.heap.size) (by have := HLw.out; omega) B2.out)
  clear hw rb rq ON
  go_wp2_with fail
  (try simp only [Exit.inBlock, Exit.then])
  refine bodyPost_ret (by simp [results, Try.results18, go_sem, k0', k1', k2', k3', k4', k5', k6', k7', k8', k9']; try rfl) rfl ?_
  rw [HW.out]
  exact stpR_zero 1 BZ.out

set_option maxHeartbeats 6400000 in
set_option maxRecDepth 100000 in
theorem wstep_far {A F P O : Option Addr} {n ca m cf np cp no co : Nat} {a r : Nat → Int} {l : List PWh.Fund} {w : World} {yt yb yx t b : Int} (hA : SlP w A n a r) (hF : SlF w F m l) (hR : PWh.Rt a r n l) (hn : ¬ (Nr yt ∧ Nr t ∧ Nr yb ∧ Nr b ∧ Nr (yt + t) ∧ Nr (yb + b))) :
    Calls Try.prog 18 #[.agg #[.slice A n ca, .slice F m cf], .agg #[.int .i64 yt, .int .i64 yb, .int .i64 yx, .slice P np cp, .slice O no co], .int .i64 t, .int .i64 b] w (StpR 0 0 0 [] [] 0 0 0 [] [] 3 w) := by
  have HR : Hid (∀ w', Below w.heap.size w w' → Calls Try.prog 14 #[.agg #[.slice A n ca, .slice F m cf]] w' fun e w'' => e = .returned (.bool true) ∧ Below w'.heap.size w' w'') := Lib.hid (fun w' h => wright_any (hA.on h) (hF.on h) ⟨fun _ => hR, fun _ => rfl⟩)
  have HD : Hid (¬ (Nr (yt + t) ∧ Nr (yb + b)) → ∀ w', Below w.heap.size w w' → Calls Try.prog 11 #[.agg #[.slice A n ca, .slice F m cf], .int .i64 (yt + t), .int .i64 (yb + b)] w' (YrR 0 0 0 [] [] 3 w')) := Lib.hid (fun h w' hb => wdue_far (hA.on hb) (hF.on hb) hR h)
  obtain ⟨y1, h1⟩ := near_bool yt
  obtain ⟨y2, h2⟩ := near_bool t
  obtain ⟨y3, h3⟩ := near_bool yb
  obtain ⟨y4, h4⟩ := near_bool b
  have N1 : Hid (∀ w, Calls Try.prog 20 #[.int .i64 yt] w fun e w' => e = .returned (.bool y1) ∧ w = w') := Lib.hid (fun w => near_any yt w y1 h1)
  have N2 : Hid (∀ w, Calls Try.prog 20 #[.int .i64 t] w fun e w' => e = .returned (.bool y2) ∧ w = w') := Lib.hid (fun w => near_any t w y2 h2)
  have N3 : Hid (∀ w, Calls Try.prog 20 #[.int .i64 yb] w fun e w' => e = .returned (.bool y3) ∧ w = w') := Lib.hid (fun w => near_any yb w y3 h3)
  have N4 : Hid (∀ w, Calls Try.prog 20 #[.int .i64 b] w fun e w' => e = .returned (.bool y4) ∧ w = w') := Lib.hid (fun w => near_any b w y4 h4)
  have H1 := Lib.hid h1; have H2 := Lib.hid h2; have H3 := Lib.hid h3; have H4 := Lib.hid h4; have HN := Lib.hid hn
  clear h1 h2 h3 h4 hn hA hF hR
  go_enter Try.func18, Try.ntmps18
  go_upto_region 1 with fail
  obtain ⟨w1, hw1, XS, XY, XZ, XQ, b1, hs1⟩ := enter4 w 25 30 30 30 [.slice A n ca, .slice F m cf] [.int .i64 yt, .int .i64 yb, .int .i64 yx, .slice P np cp, .slice O no co] [.int .i64 0, .int .i64 0, .int .i64 0, .slice none 0 0, .slice none 0 0] [.int .i64 0, .int .i64 0, .int .i64 0, .slice none 0 0, .slice none 0 0]
  rw [hw1]
  obtain ⟨L, hL⟩ : ∃ L, w.heap.size = L := ⟨_, rfl⟩
  rw [hL] at XS XY XZ XQ hs1 ⊢
  have XS1 := Lib.hid XS; have XY1 := Lib.hid XY; have XZ1 := Lib.hid XZ; have XQ1 := Lib.hid XQ; have B1 := Lib.hid b1; have HLw := Lib.hid hL
  clear hw1 hL b1 XS XY XZ XQ hs1
  obtain ⟨c0, c1⟩ := box2 XS1.out
  go_wp2_with fail
  refine (HR.out _ B1.out).mono ?_
  rintro _ w2 ⟨rfl, b2⟩
  have XS2 := Lib.hid (XS1.out.on b2); have XY2 := Lib.hid (XY1.out.on b2); have XZ2 := Lib.hid (XZ1.out.on b2); have XQ2 := Lib.hid (XQ1.out.on b2); have B2 := Lib.hid (below_step B1.out b2)
  clear b2 XS1 XY1 XZ1 XQ1 B1 c0 c1
  obtain ⟨q0, q1, q2, q3, q4⟩ := box5 XY2.out
  cases y1 with
  | false =>
    go_wp2_with fail
    refine (N1.out _).mono ?_
    rintro _ _ ⟨rfl, rfl⟩
    obtain ⟨f0, f1, f2, f3, f4⟩ := box5f XZ2.out
    obtain ⟨e0, e1, e2, e3, e4⟩ := box5 XZ2.out
    obtain ⟨f5, f6, f7, f8, f9⟩ := box5f XQ2.out
    obtain ⟨e5, e6, e7, e8, e9⟩ := box5 XQ2.out
    obtain ⟨wz, hw, rb, rq, ON⟩ := store55 XZ2.out XQ2.out (by omega) (.int .i64 0) (.int .i64 0) (.int .i64 0) (.slice none 0 0) (.slice none 0 0) (.int .i64 0) (.int .i64 0) (.int .i64 0) (.slice none 0 0) (.slice none 0 0)
    obtain ⟨k0', k1', k2', k3', k4'⟩ := box5 rb
    obtain ⟨k5', k6', k7', k8', k9'⟩ := box5 rq
    rw [← hw] at k0' k1' k2' k3' k4' k5' k6' k7' k8' k9'
    have HW := Lib.hid hw
    have BZ := Lib.hid (ON (B := w.heap.size) (by have := HLw.out; omega) B2.out)
    clear hw rb rq ON
    go_wp2_with fail
    (try simp only [Exit.inBlock, Exit.then])
    refine bodyPost_ret (by simp [results, Try.results18, go_sem, k0', k1', k2', k3', k4', k5', k6', k7', k8', k9']; try rfl) rfl ?_
    rw [HW.out]
    exact stpR_zero 3 BZ.out
  | true =>
    go_wp2_with fail
    refine (N1.out _).mono ?_
    rintro _ _ ⟨rfl, rfl⟩
    cases y2 with
    | false =>
      go_wp2_with fail
      refine (N2.out _).mono ?_
      rintro _ _ ⟨rfl, rfl⟩
      obtain ⟨f0, f1, f2, f3, f4⟩ := box5f XZ2.out
      obtain ⟨e0, e1, e2, e3, e4⟩ := box5 XZ2.out
      obtain ⟨f5, f6, f7, f8, f9⟩ := box5f XQ2.out
      obtain ⟨e5, e6, e7, e8, e9⟩ := box5 XQ2.out
      obtain ⟨wz, hw, rb, rq, ON⟩ := store55 XZ2.out XQ2.out (by omega) (.int .i64 0) (.int .i64 0) (.int .i64 0) (.slice none 0 0) (.slice none 0 0) (.int .i64 0) (.int .i64 0) (.int .i64 0) (.slice none 0 0) (.slice none 0 0)
      obtain ⟨k0', k1', k2', k3', k4'⟩ := box5 rb
      obtain ⟨k5', k6', k7', k8', k9'⟩ := box5 rq
      rw [← hw] at k0' k1' k2' k3' k4' k5' k6' k7' k8' k9'
      have HW := Lib.hid hw
      have BZ := Lib.hid (ON (B := w.heap.size) (by have := HLw.out; omega) B2.out)
      clear hw rb rq ON
      go_wp2_with fail
      (try simp only [Exit.inBlock, Exit.then])
      refine bodyPost_ret (by simp [results, Try.results18, go_sem, k0', k1', k2', k3', k4', k5', k6', k7', k8', k9']; try rfl) rfl ?_
      rw [HW.out]
      exact stpR_zero 3 BZ.out
    | true =>
      go_wp2_with fail
      refine (N2.out _).mono ?_
      rintro _ _ ⟨rfl, rfl⟩
      cases y3 with
      | false =>
        go_wp2_with fail
        refine (N3.out _).mono ?_
        rintro _ _ ⟨rfl, rfl⟩
        obtain ⟨f0, f1, f2, f3, f4⟩ := box5f XZ2.out
        obtain ⟨e0, e1, e2, e3, e4⟩ := box5 XZ2.out
        obtain ⟨f5, f6, f7, f8, f9⟩ := box5f XQ2.out
        obtain ⟨e5, e6, e7, e8, e9⟩ := box5 XQ2.out
        obtain ⟨wz, hw, rb, rq, ON⟩ := store55 XZ2.out XQ2.out (by omega) (.int .i64 0) (.int .i64 0) (.int .i64 0) (.slice none 0 0) (.slice none 0 0) (.int .i64 0) (.int .i64 0) (.int .i64 0) (.slice none 0 0) (.slice none 0 0)
        obtain ⟨k0', k1', k2', k3', k4'⟩ := box5 rb
        obtain ⟨k5', k6', k7', k8', k9'⟩ := box5 rq
        rw [← hw] at k0' k1' k2' k3' k4' k5' k6' k7' k8' k9'
        have HW := Lib.hid hw
        have BZ := Lib.hid (ON (B := w.heap.size) (by have := HLw.out; omega) B2.out)
        clear hw rb rq ON
        go_wp2_with fail
        (try simp only [Exit.inBlock, Exit.then])
        refine bodyPost_ret (by simp [results, Try.results18, go_sem, k0', k1', k2', k3', k4', k5', k6', k7', k8', k9']; try rfl) rfl ?_
        rw [HW.out]
        exact stpR_zero 3 BZ.out
      | true =>
        go_wp2_with fail
        refine (N3.out _).mono ?_
        rintro _ _ ⟨rfl, rfl⟩
        cases y4 with
        | false =>
          go_wp2_with fail
          refine (N4.out _).mono ?_
          rintro _ _ ⟨rfl, rfl⟩
          obtain ⟨f0, f1, f2, f3, f4⟩ := box5f XZ2.out
          obtain ⟨e0, e1, e2, e3, e4⟩ := box5 XZ2.out
          obtain ⟨f5, f6, f7, f8, f9⟩ := box5f XQ2.out
          obtain ⟨e5, e6, e7, e8, e9⟩ := box5 XQ2.out
          obtain ⟨wz, hw, rb, rq, ON⟩ := store55 XZ2.out XQ2.out (by omega) (.int .i64 0) (.int .i64 0) (.int .i64 0) (.slice none 0 0) (.slice none 0 0) (.int .i64 0) (.int .i64 0) (.int .i64 0) (.slice none 0 0) (.slice none 0 0)
          obtain ⟨k0', k1', k2', k3', k4'⟩ := box5 rb
          obtain ⟨k5', k6', k7', k8', k9'⟩ := box5 rq
          rw [← hw] at k0' k1' k2' k3' k4' k5' k6' k7' k8' k9'
          have HW := Lib.hid hw
          have BZ := Lib.hid (ON (B := w.heap.size) (by have := HLw.out; omega) B2.out)
          clear hw rb rq ON
          go_wp2_with fail
          (try simp only [Exit.inBlock, Exit.then])
          refine bodyPost_ret (by simp [results, Try.results18, go_sem, k0', k1', k2', k3', k4', k5', k6', k7', k8', k9']; try rfl) rfl ?_
          rw [HW.out]
          exact stpR_zero 3 BZ.out
        | true =>
          go_wp2_with fail
          refine (N4.out _).mono ?_
          rintro _ _ ⟨rfl, rfl⟩
          have h1 := H1.out.1 (by simp); have h2 := H2.out.1 (by simp); have h3 := H3.out.1 (by simp); have h4 := H4.out.1 (by simp)
          have HD2 := Lib.hid (HD.out (fun h => HN.out ⟨h1, h2, h3, h4, h⟩))
          have u1 : -9223372036854775808 ≤ yt + t ∧ yt + t ≤ 9223372036854775807 := by unfold Nr at h1 h2; omega
          have u2 : -9223372036854775808 ≤ yb + b ∧ yb + b ≤ 9223372036854775807 := by unfold Nr at h3 h4; omega
          obtain ⟨u11, u12⟩ := u1; obtain ⟨u21, u22⟩ := u2
          obtain ⟨c0, c1⟩ := box2 XS2.out
          clear h1 h2 h3 h4 HD HN H1 H2 H3 H4
          go_wp2_with fail
          refine (HD2.out _ B2.out).mono ?_
          rintro _ w3 ⟨p', o', rfl, v1, v2, b3, -, -⟩
          obtain ⟨P', cp', rfl, -, -, -⟩ := v1
          obtain ⟨O', co', rfl, -, -, -⟩ := v2
          have XZ3 := Lib.hid (XZ2.out.on b3); have XQ3 := Lib.hid (XQ2.out.on b3); have B3 := Lib.hid (below_step B2.out b3)
          clear b3 HD2 c0 c1 q0 q1 q2 q3 q4
          unfold yrV
          go_upto_region 6 with fail
          have b4 : Below w3.heap.size w3 (w3.alloc (.cells #[.int .i64 0, .int .i64 0, .int .i64 0, .slice P' ([] : List Int).length cp', .slice O' ([] : List Int).length co'] 30)) := (Below.refl _ _).alloc (Nat.le_refl _) _
          have XZ4 := Lib.hid (XZ3.out.on b4); have XQ4 := Lib.hid (XQ3.out.on b4); have B4 := Lib.hid (below_step B3.out b4)
          simp only [List.length_nil] at XZ4 XQ4 B4 ⊢
          generalize w3.alloc (.cells #[.int .i64 0, .int .i64 0, .int .i64 0, .slice P' 0 cp', .slice O' 0 co'] 30) = w4 at *
          clear b4
          obtain ⟨f0, f1, f2, f3, f4⟩ := box5f XZ4.out
          obtain ⟨e0, e1, e2, e3, e4⟩ := box5 XZ4.out
          obtain ⟨f5, f6, f7, f8, f9⟩ := box5f XQ4.out
          obtain ⟨e5, e6, e7, e8, e9⟩ := box5 XQ4.out
          obtain ⟨wz, hw, rb, rq, ON⟩ := store55 XZ4.out XQ4.out (by omega) (.int .i64 0) (.int .i64 0) (.int .i64 0) (.slice none 0 0) (.slice none 0 0) (.int .i64 0) (.int .i64 0) (.int .i64 0) (.slice none 0 0) (.slice none 0 0)
          obtain ⟨k0', k1', k2', k3', k4'⟩ := box5 rb
          obtain ⟨k5', k6', k7', k8', k9'⟩ := box5 rq
          rw [← hw] at k0' k1' k2' k3' k4' k5' k6' k7' k8' k9'
          have HW := Lib.hid hw
          have BZ := Lib.hid (ON (B := w.heap.size) (by have := HLw.out; omega) B4.out)
          clear hw rb rq ON
          go_wp2_with fail
          (try simp only [Exit.inBlock, Exit.then])
          refine bodyPost_ret (by simp [results, Try.results18, go_sem, k0', k1', k2', k3', k4', k5', k6', k7', k8', k9']; try rfl) rfl ?_
          rw [HW.out]
          exact stpR_zero 3 BZ.out
end Go.Proofs.Ytpfpcnfodjmgcaa

namespace Go.Proofs.Ytpfpcnfodjmgcaa
open Go.RowKit

/-- All that a step asks to be near. -/
def Near6 (yt yb t b : Int) : Prop := Nr yt ∧ Nr t ∧ Nr yb ∧ Nr b ∧ Nr (yt + t) ∧ Nr (yb + b)
theorem keep33' {w w' : World} {p q r p' q' r' : Addr} {u v x u' v' x' : Value} (hb : Below w.heap.size w w') (h : (w.cell? p = some u ∧ w.cell? q = some v ∧ w.cell? r = some x) ∧ w.cell? p' = some u' ∧ w.cell? q' = some v' ∧ w.cell? r' = some x') :
    (w'.cell? p = some u ∧ w'.cell? q = some v ∧ w'.cell? r = some x) ∧ w'.cell? p' = some u' ∧ w'.cell? q' = some v' ∧ w'.cell? r' = some x' := ⟨keepc3 hb h.1, keepc3 hb h.2⟩

set_option maxHeartbeats 6400000 in
set_option maxRecDepth 100000 in
theorem wstep_lists {A F P O : Option Addr} {n ca m cf np cp no co : Nat} {a r : Nat → Int} {l : List PWh.Fund} {w : World} {yt yb yx t b : Int} (hA : SlP w A n a r) (hF : SlF w F m l) (hR : PWh.Rt a r n l) (hn : Near6 yt yb t b) (hx : ¬ ((np = 0 ∨ np = m) ∧ (no = 0 ∨ no = m))) :
    Calls Try.prog 18 #[.agg #[.slice A n ca, .slice F m cf], .agg #[.int .i64 yt, .int .i64 yb, .int .i64 yx, .slice P np cp, .slice O no co], .int .i64 t, .int .i64 b] w (StpR 0 0 0 [] [] 0 0 0 [] [] 1 w) := by
  unfold Near6 at hn
  have HR : Hid (∀ w', Below w.heap.size w w' → Calls Try.prog 14 #[.agg #[.slice A n ca, .slice F m cf]] w' fun e w'' => e = .returned (.bool true) ∧ Below w'.heap.size w' w'') := Lib.hid (fun w' h => wright_any (hA.on h) (hF.on h) ⟨fun _ => hR, fun _ => rfl⟩)
  have HD : Hid (∀ w', Below w.heap.size w w' → Calls Try.prog 11 #[.agg #[.slice A n ca, .slice F m cf], .int .i64 (yt + t), .int .i64 (yb + b)] w' (YrR (yt + t) (yb + b) (PBr.tax a r n (yt + t) : Nat) (PWh.paid l (yb + b)) (PWh.owed l (yb + b)) 0 w')) := Lib.hid (fun w' hb => wdue_yes (hA.on hb) (hF.on hb) hR hn.2.2.2.2.1 hn.2.2.2.2.2)
  have N1 : Hid (∀ w, Calls Try.prog 20 #[.int .i64 yt] w fun e w' => e = .returned (.bool true) ∧ w = w') := Lib.hid (fun w => near_any yt w true ⟨fun _ => hn.1, fun _ => rfl⟩)
  have N2 : Hid (∀ w, Calls Try.prog 20 #[.int .i64 t] w fun e w' => e = .returned (.bool true) ∧ w = w') := Lib.hid (fun w => near_any t w true ⟨fun _ => hn.2.1, fun _ => rfl⟩)
  have N3 : Hid (∀ w, Calls Try.prog 20 #[.int .i64 yb] w fun e w' => e = .returned (.bool true) ∧ w = w') := Lib.hid (fun w => near_any yb w true ⟨fun _ => hn.2.2.1, fun _ => rfl⟩)
  have N4 : Hid (∀ w, Calls Try.prog 20 #[.int .i64 b] w fun e w' => e = .returned (.bool true) ∧ w = w') := Lib.hid (fun w => near_any b w true ⟨fun _ => hn.2.2.2.1, fun _ => rfl⟩)
  obtain ⟨⟨u11, u12⟩, ⟨u21, u22⟩, ⟨u31, u32⟩, ⟨u41, u42⟩, hT, hB⟩ := hn
  have hl := Lib.hid hF.len
  clear hA hF hR
  go_enter Try.func18, Try.ntmps18
  go_upto_region 1 with fail
  obtain ⟨w1, hw1, XS, XY, XZ, XQ, b1, hs1⟩ := enter4 w 25 30 30 30 [.slice A n ca, .slice F m cf] [.int .i64 yt, .int .i64 yb, .int .i64 yx, .slice P np cp, .slice O no co] [.int .i64 0, .int .i64 0, .int .i64 0, .slice none 0 0, .slice none 0 0] [.int .i64 0, .int .i64 0, .int .i64 0, .slice none 0 0, .slice none 0 0]
  rw [hw1]
  obtain ⟨L, hL⟩ : ∃ L, w.heap.size = L := ⟨_, rfl⟩
  rw [hL] at XS XY XZ XQ hs1 ⊢
  have XS1 := Lib.hid XS; have XY1 := Lib.hid XY; have XZ1 := Lib.hid XZ; have XQ1 := Lib.hid XQ; have B1 := Lib.hid b1; have HLw := Lib.hid hL
  clear hw1 hL b1 XS XY XZ XQ hs1
  obtain ⟨c0, c1⟩ := box2 XS1.out
  go_wp2_with fail
  refine (HR.out _ B1.out).mono ?_
  rintro _ w2 ⟨rfl, b2⟩
  have XS2 := Lib.hid (XS1.out.on b2); have XY2 := Lib.hid (XY1.out.on b2); have XZ2 := Lib.hid (XZ1.out.on b2); have XQ2 := Lib.hid (XQ1.out.on b2); have B2 := Lib.hid (below_step B1.out b2)
  clear b2 XS1 XY1 XZ1 XQ1 B1 c0 c1
  obtain ⟨q0, q1, q2, q3, q4⟩ := box5 XY2.out
  go_wp2_with fail
  refine (N1.out _).mono ?_
  rintro _ _ ⟨rfl, rfl⟩
  go_wp2_with fail
  refine (N2.out _).mono ?_
  rintro _ _ ⟨rfl, rfl⟩
  go_wp2_with fail
  refine (N3.out _).mono ?_
  rintro _ _ ⟨rfl, rfl⟩
  go_wp2_with fail
  refine (N4.out _).mono ?_
  rintro _ _ ⟨rfl, rfl⟩
  obtain ⟨c0, c1⟩ := box2 XS2.out
  obtain ⟨T, hTT⟩ : ∃ T, yt + t = T := ⟨_, rfl⟩
  obtain ⟨B, hBB⟩ : ∃ B, yb + b = B := ⟨_, rfl⟩
  have HTT := Lib.hid hTT; have HBB := Lib.hid hBB
  rw [hTT] at HD hT; rw [hBB] at HD hB
  (try rw [hTT]); (try rw [hBB])
  obtain ⟨X, hX⟩ : ∃ X, PBr.tax a r n T = X := ⟨_, rfl⟩
  have HXX := Lib.hid hX
  rw [hX] at HD
  (try rw [hX])
  clear N1 N2 N3 N4 hX
  go_wp2_with fail
  refine (HD.out _ B2.out).mono ?_
  rintro _ w3 ⟨p', o', rfl, v1, v2, b3, -, -⟩
  obtain ⟨P', cp', rfl, np', lc1, s1'⟩ := v1
  obtain ⟨O', co', rfl, no', lc2, s2'⟩ := v2
  have hpl : (PWh.paid l B).length = m := by rw [PWh.paid_len, hl.out]
  have hol : (PWh.owed l B).length = m := by rw [PWh.owed_len, hl.out]
  rw [hpl] at s1' lc1; rw [hol] at s2' lc2
  simp only [hpl, hol]
  have S1 := Lib.hid s1'; have S2 := Lib.hid s2'
  have XS3 := Lib.hid (XS2.out.on b3); have XY3 := Lib.hid (XY2.out.on b3); have XZ3 := Lib.hid (XZ2.out.on b3); have XQ3 := Lib.hid (XQ2.out.on b3); have B3 := Lib.hid (below_step B2.out b3)
  clear b3 HD c0 c1 q0 q1 q2 q3 q4 s1' s2' hTT hBB XS2 XY2 XZ2 XQ2 B2 hpl hol
  unfold yrV
  go_upto_region 6 with fail
  have b4 : Below w3.heap.size w3 (w3.alloc (.cells #[.int .i64 T, .int .i64 B, .int .i64 (X : Int), .slice P' m cp', .slice O' m co'] 30)) := (Below.refl _ _).alloc (Nat.le_refl _) _
  have XE4 := Lib.hid (Box.new w3 30 [.int .i64 T, .int .i64 B, .int .i64 (X : Int), .slice P' m cp', .slice O' m co'])
  have XS4 := Lib.hid (XS3.out.on b4); have XY4 := Lib.hid (XY3.out.on b4); have XZ4 := Lib.hid (XZ3.out.on b4); have XQ4 := Lib.hid (XQ3.out.on b4); have B4 := Lib.hid (below_step B3.out b4)
  have S1' := Lib.hid (S1.out.on b4); have S2' := Lib.hid (S2.out.on b4)
  have hE : L + 3 < w3.heap.size := XQ3.out.1
  obtain ⟨E, hEE⟩ : ∃ E, w3.heap.size = E := ⟨_, rfl⟩
  rw [hEE] at XE4 hE ⊢
  generalize w3.alloc (.cells [.int .i64 T, .int .i64 B, .int .i64 (X : Int), .slice P' m cp', .slice O' m co'].toArray 30) = w4 at *
  clear b4 XS3 XY3 XZ3 XQ3 B3 S1 S2 hEE
  obtain ⟨c0, c1⟩ := box2 XS4.out
  obtain ⟨q0, q1, q2, q3, q4⟩ := box5 XY4.out
  by_cases hp : np = 0 ∨ np = m
  · have ho : ¬ (no = 0 ∨ no = m) := fun h => hx ⟨hp, h⟩
    have HP := Lib.hid hp; have HO := Lib.hid ho
    clear hp ho hx
    go_wp2_with fail
    refine (listof_yes _ HP.out).mono ?_
    rintro _ _ ⟨rfl, rfl⟩
    go_wp2_with fail
    refine (listof_no _ HO.out).mono ?_
    rintro _ _ ⟨rfl, rfl⟩
    clear q0 q1 q2 q3 q4 c0 c1
    obtain ⟨f0, f1, f2, f3, f4⟩ := box5f XZ4.out
    obtain ⟨e0, e1, e2, e3, e4⟩ := box5 XZ4.out
    obtain ⟨f5, f6, f7, f8, f9⟩ := box5f XQ4.out
    obtain ⟨e5, e6, e7, e8, e9⟩ := box5 XQ4.out
    obtain ⟨wz, hw, rb, rq, ON⟩ := store55 XZ4.out XQ4.out (by omega) (.int .i64 0) (.int .i64 0) (.int .i64 0) (.slice none 0 0) (.slice none 0 0) (.int .i64 0) (.int .i64 0) (.int .i64 0) (.slice none 0 0) (.slice none 0 0)
    obtain ⟨k0', k1', k2', k3', k4'⟩ := box5 rb
    obtain ⟨k5', k6', k7', k8', k9'⟩ := box5 rq
    rw [← hw] at k0' k1' k2' k3' k4' k5' k6' k7' k8' k9'
    have HW := Lib.hid hw
    have BZ := Lib.hid (ON (B := w.heap.size) (by have := HLw.out; omega) B4.out)
    clear hw rb rq ON
    go_wp2_with fail
    (try simp only [Exit.inBlock, Exit.then])
    refine bodyPost_ret (by simp [results, Try.results18, go_sem, k0', k1', k2', k3', k4', k5', k6', k7', k8', k9']; try rfl) rfl ?_
    rw [HW.out]
    exact stpR_zero 1 BZ.out
  · have HP := Lib.hid hp
    clear hp hx
    go_wp2_with fail
    refine (listof_no _ HP.out).mono ?_
    rintro _ _ ⟨rfl, rfl⟩
    clear q0 q1 q2 q3 q4 c0 c1
    obtain ⟨f0, f1, f2, f3, f4⟩ := box5f XZ4.out
    obtain ⟨e0, e1, e2, e3, e4⟩ := box5 XZ4.out
    obtain ⟨f5, f6, f7, f8, f9⟩ := box5f XQ4.out
    obtain ⟨e5, e6, e7, e8, e9⟩ := box5 XQ4.out
    obtain ⟨wz, hw, rb, rq, ON⟩ := store55 XZ4.out XQ4.out (by omega) (.int .i64 0) (.int .i64 0) (.int .i64 0) (.slice none 0 0) (.slice none 0 0) (.int .i64 0) (.int .i64 0) (.int .i64 0) (.slice none 0 0) (.slice none 0 0)
    obtain ⟨k0', k1', k2', k3', k4'⟩ := box5 rb
    obtain ⟨k5', k6', k7', k8', k9'⟩ := box5 rq
    rw [← hw] at k0' k1' k2' k3' k4' k5' k6' k7' k8' k9'
    have HW := Lib.hid hw
    have BZ := Lib.hid (ON (B := w.heap.size) (by have := HLw.out; omega) B4.out)
    clear hw rb rq ON
    go_wp2_with fail
    (try simp only [Exit.inBlock, Exit.then])
    refine bodyPost_ret (by simp [results, Try.results18, go_sem, k0', k1', k2', k3', k4', k5', k6', k7', k8', k9']; try rfl) rfl ?_
    rw [HW.out]
    exact stpR_zero 1 BZ.out
end Go.Proofs.Ytpfpcnfodjmgcaa

namespace Go.Proofs.Ytpfpcnfodjmgcaa
open Go.RowKit

/-- Four slices that read as lists. -/
def V4 (w : World) (a b c d : Value) (la lb lc ld : List Int) : Prop := VSl w a la ∧ VSl w b lb ∧ VSl w c lc ∧ VSl w d ld
theorem V4.on {w w' : World} {a b c d : Value} {la lb lc ld : List Int} (h : V4 w a b c d la lb lc ld) (hb : Below w.heap.size w w') : V4 w' a b c d la lb lc ld := ⟨h.1.on hb, h.2.1.on hb, h.2.2.1.on hb, h.2.2.2.on hb⟩
/-- What comes of a list less another one, four slices kept. -/
def LessR (n : Nat) (l : List Int) (a b c d : Value) (la lb lc ld : List Int) (w : World) (e : Ending) (w' : World) : Prop := ∃ A k, e = .returned (.slice A n k) ∧ VSl w' (.slice A n k) l ∧ Below w.heap.size w w' ∧ V4 w' a b c d la lb lc ld ∧ Fresh w (.slice A n k)
theorem zbox {w w' : World} {t : TypeId} {vs : List Value} (hb : Below (w.alloc (.cells vs.toArray t)).heap.size (w.alloc (.cells vs.toArray t)) w') : Box w' w.heap.size vs := (Box.new w t vs).on hb
theorem far5 {w : World} {G : Nat} {a b c d e : Value} {p : Addr} {u : Value} (hp : p.block ≠ G) (h : w.cell? p = some u) :
    (((((w.setCell ⟨G, 0, none⟩ a).setCell ⟨G, 1, none⟩ b).setCell ⟨G, 2, none⟩ c).setCell ⟨G, 3, none⟩ d).setCell ⟨G, 4, none⟩ e).cell? p = some u := by
  rw [World.cell?_setCell_far _ _ _ _ (fun k => hp k.symm), World.cell?_setCell_far _ _ _ _ (fun k => hp k.symm), World.cell?_setCell_far _ _ _ _ (fun k => hp k.symm), World.cell?_setCell_far _ _ _ _ (fun k => hp k.symm), World.cell?_setCell_far _ _ _ _ (fun k => hp k.symm)]
  exact h
theorem far33 {w : World} {G E Y : Nat} {a b c d e u v x u' v' x' : Value} (h : (w.cell? ⟨E, 2, none⟩ = some u ∧ w.cell? ⟨E, 3, none⟩ = some v ∧ w.cell? ⟨E, 4, none⟩ = some x) ∧ w.cell? ⟨Y, 2, none⟩ = some u' ∧ w.cell? ⟨Y, 3, none⟩ = some v' ∧ w.cell? ⟨Y, 4, none⟩ = some x') (hE : E ≠ G) (hY : Y ≠ G) {w' : World}
    (hw : w' = (((((w.setCell ⟨G, 0, none⟩ a).setCell ⟨G, 1, none⟩ b).setCell ⟨G, 2, none⟩ c).setCell ⟨G, 3, none⟩ d).setCell ⟨G, 4, none⟩ e)) :
    (w'.cell? ⟨E, 2, none⟩ = some u ∧ w'.cell? ⟨E, 3, none⟩ = some v ∧ w'.cell? ⟨E, 4, none⟩ = some x) ∧ w'.cell? ⟨Y, 2, none⟩ = some u' ∧ w'.cell? ⟨Y, 3, none⟩ = some v' ∧ w'.cell? ⟨Y, 4, none⟩ = some x' := by
  subst hw
  exact ⟨⟨far5 hE h.1.1, far5 hE h.1.2.1, far5 hE h.1.2.2⟩, far5 hY h.2.1, far5 hY h.2.2.1, far5 hY h.2.2.2⟩
theorem ka {w : World} {o : Obj} {p q r p' q' r' : Addr} {u v x u' v' x' : Value} (h : (w.cell? p = some u ∧ w.cell? q = some v ∧ w.cell? r = some x) ∧ w.cell? p' = some u' ∧ w.cell? q' = some v' ∧ w.cell? r' = some x') : ((w.alloc o).cell? p = some u ∧ (w.alloc o).cell? q = some v ∧ (w.alloc o).cell? r = some x) ∧ (w.alloc o).cell? p' = some u' ∧ (w.alloc o).cell? q' = some v' ∧ (w.alloc o).cell? r' = some x' := keep33' ((Below.refl _ _).alloc (Nat.le_refl _) _) h
theorem keep33z {w w' : World} {o : Obj} {p q r p' q' r' : Addr} {u v x u' v' x' : Value} (hb : Below (w.alloc o).heap.size (w.alloc o) w') (h : (w.cell? p = some u ∧ w.cell? q = some v ∧ w.cell? r = some x) ∧ w.cell? p' = some u' ∧ w.cell? q' = some v' ∧ w.cell? r' = some x') : (w'.cell? p = some u ∧ w'.cell? q = some v ∧ w'.cell? r = some x) ∧ w'.cell? p' = some u' ∧ w'.cell? q' = some v' ∧ w'.cell? r' = some x' := keep33' hb (ka h)
theorem V4.z {w : World} {a b c d : Value} {la lb lc ld : List Int} (h : V4 w a b c d la lb lc ld) : V4 (w.alloc (.cells #[.int .i64 0, .int .i64 0, .int .i64 0, .slice none 0 0, .slice none 0 0] 30)) a b c d la lb lc ld := h.on ((Below.refl _ _).alloc (Nat.le_refl _) _)
theorem V4.dr {w : World} {a b c d : Value} {la lb lc ld : List Int} (h : V4 w a b c d la lb lc ld) : V4 w.drew a b c d la lb lc ld := h.on (Below.refl _ _).drew
theorem zon {w w' : World} {G : Nat} {vs : List Value} (h : Box w G vs) (hb : Below w.drew.heap.size w.drew w') : Box w' G vs := h.on (below_undrew hb)
theorem size_dr {w w' : World} (hb : Below w.drew.heap.size w.drew w') : w.heap.size ≤ w'.heap.size := hb.size
theorem ne_of {a b E : Nat} (h : E < a) (k : a ≤ b) : E ≠ b := by omega
theorem vsl_far {w : World} {v u : Value} {l : List Int} {G j : Nat} (h : VSl w v l) (hne : 0 < l.length → ∀ ad n c, v = .slice (some ad) n c → ad.block ≠ G) : VSl (w.setCell ⟨G, j, none⟩ u) v l := by
  obtain ⟨P, cp, rfl, h1, h2, h3⟩ := h
  refine ⟨P, cp, rfl, h1, h2, ?_⟩
  by_cases h0 : l.length = 0
  · exact ⟨rfl, h3.2.1, h3.2.2.1, .inl h0⟩
  · rcases h3.2.2.2 with h4 | ⟨b, off, rfl, _⟩
    · exact absurd h4 h0
    · exact h3.setCell (fun e => hne (by omega) _ _ _ rfl e.symm) u
theorem vsl_far5 {w : World} {v a b c d e : Value} {l : List Int} {G : Nat} (h : VSl w v l) (hne : 0 < l.length → ∀ ad n c, v = .slice (some ad) n c → ad.block ≠ G) :
    VSl (((((w.setCell ⟨G, 0, none⟩ a).setCell ⟨G, 1, none⟩ b).setCell ⟨G, 2, none⟩ c).setCell ⟨G, 3, none⟩ d).setCell ⟨G, 4, none⟩ e) v l :=
  vsl_far (vsl_far (vsl_far (vsl_far (vsl_far h hne) hne) hne) hne) hne
theorem VSl.apart_lt {w : World} {v : Value} {l : List Int} (h : VSl w v l) : 0 < l.length → ∀ ad n c, v = .slice (some ad) n c → ad.block ≠ w.heap.size := by
  obtain ⟨P, cp, rfl, h1, h2, h3⟩ := h
  intro h0 ad n c e he
  injection e with e1 _ _
  have := h3.lt h0 ad e1
  omega
theorem Fresh.apart {w : World} {v : Value} {l : List Int} {G : Nat} (h : Fresh w v) (hG : G < w.heap.size) : 0 < l.length → ∀ ad n c, v = .slice (some ad) n c → ad.block ≠ G := fun _ ad n c e he => by have := h ad n c e; omega
/-- What came, in the block G. -/
def StpC (w4 : World) (G : Nat) (t b Z : Int) (v5 v6 : Value) (l5 l6 : List Int) (wx : World) : Prop := Box wx G [.int .i64 t, .int .i64 b, .int .i64 Z, v5, v6] ∧ VSl wx v5 l5 ∧ VSl wx v6 l6 ∧ Below w4.heap.size w4 wx ∧ w4.heap.size ≤ G ∧ Fresh w4 v5 ∧ Fresh w4 v6
theorem stpc_new {w4 w6 : World} {t b Z : Int} {v5 v6 : Value} {l5 l6 : List Int} (ty : TypeId) (h5 : VSl w6 v5 l5) (h6 : VSl w6 v6 l6) (hb : Below w4.heap.size w4 w6) (g5 : Fresh w4 v5) (g6 : Fresh w4 v6) : StpC w4 w6.heap.size t b Z v5 v6 l5 l6 (w6.alloc (.cells #[.int .i64 t, .int .i64 b, .int .i64 Z, v5, v6] ty)) :=
  ⟨Box.new w6 ty _, h5.on ((Below.refl _ _).alloc (Nat.le_refl _) _), h6.on ((Below.refl _ _).alloc (Nat.le_refl _) _), hb.alloc hb.size _, hb.size, g5, g6⟩
theorem stpc_set {w4 w6 : World} {G : Nat} {t b Z : Int} {v5 v6 a' b' c' d' e' : Value} {l5 l6 : List Int} (X : Box w6 G [a', b', c', d', e']) (h5 : VSl w6 v5 l5) (h6 : VSl w6 v6 l6) (hb : Below w4.heap.size w4 w6) (hG : w4.heap.size ≤ G)
    (n5 : 0 < l5.length → ∀ ad n c, v5 = .slice (some ad) n c → ad.block ≠ G) (n6 : 0 < l6.length → ∀ ad n c, v6 = .slice (some ad) n c → ad.block ≠ G) (g5 : Fresh w4 v5) (g6 : Fresh w4 v6) :
    StpC w4 G t b Z v5 v6 l5 l6 (((((w6.setCell ⟨G, 0, none⟩ (.int .i64 t)).setCell ⟨G, 1, none⟩ (.int .i64 b)).setCell ⟨G, 2, none⟩ (.int .i64 Z)).setCell ⟨G, 3, none⟩ v5).setCell ⟨G, 4, none⟩ v6) := by
  refine ⟨?_, vsl_far5 h5 n5, vsl_far5 h6 n6, ((((hb.setCell hG _).setCell hG _).setCell hG _).setCell hG _).setCell hG _, hG, g5, g6⟩
  exact ((((X.set 0 (by simp) _).set 1 (by simp) _).set 2 (by simp) _).set 3 (by simp) _).set 4 (by simp) _
theorem midl_paid {l : List PWh.Fund} (h : PWh.OkTo l l.length) {b : Int} (hb : b ≤ 1125899906842624) : PWh.MidL (PWh.paid l b) := by
  intro i hl
  rw [PWh.paid_len] at hl
  rw [PWh.paid_at hl]
  unfold PWh.Mid
  by_cases h0 : 0 ≤ b
  · have := PWh.part_below (b := b) (h i hl hl).1.2 h0 (h i hl hl).2.2; omega
  · rw [PWh.part_low (by omega) (h i hl hl).2.2]; omega
theorem midl_owed {l : List PWh.Fund} (h : PWh.OkTo l l.length) {b : Int} (hb : b ≤ 1125899906842624) : PWh.MidL (PWh.owed l b) := by
  intro i hl
  rw [PWh.owed_len] at hl
  rw [PWh.owed_at hl]
  unfold PWh.Mid
  by_cases h0 : 0 ≤ b
  · have := PWh.part_below (b := b) (h i hl hl).2.1.2 h0 (h i hl hl).2.2; omega
  · rw [PWh.part_low (by omega) (h i hl hl).2.2]; omega
theorem tax_mid {a r : Nat → Int} {n : Nat} {t : Int} (h : PBr.Rt a r n) (ht : t ≤ 1125899906842624) : PBr.tax a r n t ≤ 1125899906842624 := by
  by_cases h0 : 0 ≤ t
  · have := PBr.tax_le h h0; omega
  · rw [PBr.tax_low h (by omega)]; omega

set_option maxHeartbeats 6400000 in
set_option maxRecDepth 100000 in
theorem wstep_yes {A F P O : Option Addr} {n ca m cf np cp no co : Nat} {a r : Nat → Int} {l : List PWh.Fund} {w : World} {yt yb yx t b : Int} {lyp lyo : List Int} (hA : SlP w A n a r) (hF : SlF w F m l) (hR : PWh.Rt a r n l) (hn : Near6 yt yb t b) (hx : (np = 0 ∨ np = m) ∧ (no = 0 ∨ no = m))
    (hp : VSl w (.slice P np cp) lyp) (ho : VSl w (.slice O no co) lyo) (hyx : PWh.Mid yx) (hm1 : PWh.MidL lyp) (hm2 : PWh.MidL lyo) :
    Calls Try.prog 18 #[.agg #[.slice A n ca, .slice F m cf], .agg #[.int .i64 yt, .int .i64 yb, .int .i64 yx, .slice P np cp, .slice O no co], .int .i64 t, .int .i64 b] w (StpR (yt + t) (yb + b) (PBr.tax a r n (yt + t) : Nat) (PWh.paid l (yb + b)) (PWh.owed l (yb + b)) t b ((PBr.tax a r n (yt + t) : Nat) - yx) (PWh.less (PWh.paid l (yb + b)) lyp) (PWh.less (PWh.owed l (yb + b)) lyo) 0 w) := by
  unfold Near6 at hn
  have mp := midl_paid hR.2.2 hn.2.2.2.2.2.2
  have mo := midl_owed hR.2.2 hn.2.2.2.2.2.2
  have mx := tax_mid hR.1 hn.2.2.2.2.1.2
  have hm6 : m ≤ 6 := by have := hR.2.1; have := hF.len; omega
  obtain ⟨y01, y02⟩ := hyx
  have HR : Hid (∀ w', Below w.heap.size w w' → Calls Try.prog 14 #[.agg #[.slice A n ca, .slice F m cf]] w' fun e w'' => e = .returned (.bool true) ∧ Below w'.heap.size w' w'') := Lib.hid (fun w' h => wright_any (hA.on h) (hF.on h) ⟨fun _ => hR, fun _ => rfl⟩)
  have HD : Hid (∀ w', Below w.heap.size w w' → Calls Try.prog 11 #[.agg #[.slice A n ca, .slice F m cf], .int .i64 (yt + t), .int .i64 (yb + b)] w' (YrR (yt + t) (yb + b) (PBr.tax a r n (yt + t) : Nat) (PWh.paid l (yb + b)) (PWh.owed l (yb + b)) 0 w')) := Lib.hid (fun w' hb => wdue_yes (hA.on hb) (hF.on hb) hR hn.2.2.2.2.1 hn.2.2.2.2.2)
  have N1 : Hid (∀ w, Calls Try.prog 20 #[.int .i64 yt] w fun e w' => e = .returned (.bool true) ∧ w = w') := Lib.hid (fun w => near_any yt w true ⟨fun _ => hn.1, fun _ => rfl⟩)
  have N2 : Hid (∀ w, Calls Try.prog 20 #[.int .i64 t] w fun e w' => e = .returned (.bool true) ∧ w = w') := Lib.hid (fun w => near_any t w true ⟨fun _ => hn.2.1, fun _ => rfl⟩)
  have N3 : Hid (∀ w, Calls Try.prog 20 #[.int .i64 yb] w fun e w' => e = .returned (.bool true) ∧ w = w') := Lib.hid (fun w => near_any yb w true ⟨fun _ => hn.2.2.1, fun _ => rfl⟩)
  have N4 : Hid (∀ w, Calls Try.prog 20 #[.int .i64 b] w fun e w' => e = .returned (.bool true) ∧ w = w') := Lib.hid (fun w => near_any b w true ⟨fun _ => hn.2.2.2.1, fun _ => rfl⟩)
  obtain ⟨⟨u11, u12⟩, ⟨u21, u22⟩, ⟨u31, u32⟩, ⟨u41, u42⟩, hT, hB⟩ := hn
  have hl := Lib.hid hF.len
  have MP := Lib.hid mp; have MO := Lib.hid mo; have YP := Lib.hid hm1; have YO := Lib.hid hm2
  have hpn : lyp.length = np := by obtain ⟨_, _, h, _⟩ := hp; injection h with _ h _; exact h.symm
  have hon : lyo.length = no := by obtain ⟨_, _, h, _⟩ := ho; injection h with _ h _; exact h.symm
  have HPN := Lib.hid hpn; have HON := Lib.hid hon; have HP := Lib.hid hp; have HO := Lib.hid ho
  have hx1 := Lib.hid hx.1; have hx2 := Lib.hid hx.2
  clear hA hF hR hx hm1 hm2 mp mo hpn hon hp ho
  go_enter Try.func18, Try.ntmps18
  go_upto_region 1 with fail
  obtain ⟨w1, hw1, XS, XY, XZ, XQ, b1, hs1⟩ := enter4 w 25 30 30 30 [.slice A n ca, .slice F m cf] [.int .i64 yt, .int .i64 yb, .int .i64 yx, .slice P np cp, .slice O no co] [.int .i64 0, .int .i64 0, .int .i64 0, .slice none 0 0, .slice none 0 0] [.int .i64 0, .int .i64 0, .int .i64 0, .slice none 0 0, .slice none 0 0]
  rw [hw1]
  obtain ⟨L, hL⟩ : ∃ L, w.heap.size = L := ⟨_, rfl⟩
  rw [hL] at XS XY XZ XQ hs1 ⊢
  have XS1 := Lib.hid XS; have XY1 := Lib.hid XY; have XZ1 := Lib.hid XZ; have XQ1 := Lib.hid XQ; have B1 := Lib.hid b1; have HLw := Lib.hid hL
  clear hw1 hL b1 XS XY XZ XQ hs1
  obtain ⟨c0, c1⟩ := box2 XS1.out
  go_wp2_with fail
  refine (HR.out _ B1.out).mono ?_
  rintro _ w2 ⟨rfl, b2⟩
  have XS2 := Lib.hid (XS1.out.on b2); have XY2 := Lib.hid (XY1.out.on b2); have XZ2 := Lib.hid (XZ1.out.on b2); have XQ2 := Lib.hid (XQ1.out.on b2); have B2 := Lib.hid (below_step B1.out b2)
  clear b2 XS1 XY1 XZ1 XQ1 B1 c0 c1
  obtain ⟨q0, q1, q2, q3, q4⟩ := box5 XY2.out
  go_wp2_with fail
  refine (N1.out _).mono ?_
  rintro _ _ ⟨rfl, rfl⟩
  go_wp2_with fail
  refine (N2.out _).mono ?_
  rintro _ _ ⟨rfl, rfl⟩
  go_wp2_with fail
  refine (N3.out _).mono ?_
  rintro _ _ ⟨rfl, rfl⟩
  go_wp2_with fail
  refine (N4.out _).mono ?_
  rintro _ _ ⟨rfl, rfl⟩
  obtain ⟨c0, c1⟩ := box2 XS2.out
  obtain ⟨T, hTT⟩ : ∃ T, yt + t = T := ⟨_, rfl⟩
  obtain ⟨B, hBB⟩ : ∃ B, yb + b = B := ⟨_, rfl⟩
  have HTT := Lib.hid hTT; have HBB := Lib.hid hBB
  rw [hTT] at HD hT mx; rw [hBB] at HD hB MP MO
  (try rw [hTT]); (try rw [hBB])
  obtain ⟨X, hX⟩ : ∃ X, PBr.tax a r n T = X := ⟨_, rfl⟩
  have HXX := Lib.hid hX
  rw [hX] at HD mx
  (try rw [hX])
  clear N1 N2 N3 N4 hX
  go_wp2_with fail
  refine (HD.out _ B2.out).mono ?_
  rintro _ w3 ⟨p', o', rfl, v1, v2, b3, fp, fo⟩
  obtain ⟨P', cp', rfl, np', lc1, s1'⟩ := v1
  obtain ⟨O', co', rfl, no', lc2, s2'⟩ := v2
  have FP := Lib.hid fp; have FO := Lib.hid fo
  have hL2 : L + 3 < w2.heap.size := XQ2.out.1
  clear fp fo
  have hpl : (PWh.paid l B).length = m := by rw [PWh.paid_len, hl.out]
  have hol : (PWh.owed l B).length = m := by rw [PWh.owed_len, hl.out]
  rw [hpl] at s1' lc1; rw [hol] at s2' lc2
  simp only [hpl, hol]
  have S1 := Lib.hid (show VSl w3 (.slice P' m cp') (PWh.paid l B) from ⟨P', cp', by rw [hpl], np', by rw [hpl]; exact lc1, by rw [hpl]; exact s1'⟩); have S2 := Lib.hid (show VSl w3 (.slice O' m co') (PWh.owed l B) from ⟨O', co', by rw [hol], no', by rw [hol]; exact lc2, by rw [hol]; exact s2'⟩)
  have XS3 := Lib.hid (XS2.out.on b3); have XY3 := Lib.hid (XY2.out.on b3); have XZ3 := Lib.hid (XZ2.out.on b3); have XQ3 := Lib.hid (XQ2.out.on b3); have B3 := Lib.hid (below_step B2.out b3)
  have hbw := Lib.hid B3.out
  clear b3 HD c0 c1 q0 q1 q2 q3 q4 s1' s2' hTT hBB XS2 XY2 XZ2 XQ2 B2 hpl hol
  unfold yrV
  go_upto_region 6 with fail
  have b4 : Below w3.heap.size w3 (w3.alloc (.cells #[.int .i64 T, .int .i64 B, .int .i64 (X : Int), .slice P' m cp', .slice O' m co'] 30)) := (Below.refl _ _).alloc (Nat.le_refl _) _
  have XE4 := Lib.hid (Box.new w3 30 [.int .i64 T, .int .i64 B, .int .i64 (X : Int), .slice P' m cp', .slice O' m co'])
  have XS4 := Lib.hid (XS3.out.on b4); have XY4 := Lib.hid (XY3.out.on b4); have XZ4 := Lib.hid (XZ3.out.on b4); have XQ4 := Lib.hid (XQ3.out.on b4); have B4 := Lib.hid (below_step B3.out b4)
  have S1' := Lib.hid (S1.out.on b4); have S2' := Lib.hid (S2.out.on b4)
  have hE : L + 3 < w3.heap.size := XQ3.out.1
  obtain ⟨E, hEE⟩ : ∃ E, w3.heap.size = E := ⟨_, rfl⟩
  rw [hEE] at XE4 hE ⊢
  generalize w3.alloc (.cells [.int .i64 T, .int .i64 B, .int .i64 (X : Int), .slice P' m cp', .slice O' m co'].toArray 30) = w4 at *
  clear b4 XS3 XY3 XZ3 XQ3 B3 S1 S2 hEE
  have Q1 := Lib.hid (HP.out.on B4.out); have Q2 := Lib.hid (HO.out.on B4.out)
  obtain ⟨c0, c1⟩ := box2 XS4.out
  obtain ⟨q0, q1, q2, q3, q4⟩ := box5 XY4.out
  go_wp2_with fail
  refine (listof_yes _ hx1.out).mono ?_
  rintro _ _ ⟨rfl, rfl⟩
  go_wp2_with fail
  refine (listof_yes _ hx2.out).mono ?_
  rintro _ _ ⟨rfl, rfl⟩
  obtain ⟨z0, z1, z2, z3, z4⟩ := box5 XE4.out
  have G4 : V4 w4 (.slice P' m cp') (.slice P np cp) (.slice O' m co') (.slice O no co) (PWh.paid l B) lyp (PWh.owed l B) lyo := ⟨S1'.out, Q1.out, S2'.out, Q2.out⟩
  have C1 : Hid (∀ w', V4 w' (.slice P' m cp') (.slice P np cp) (.slice O' m co') (.slice O no co) (PWh.paid l B) lyp (PWh.owed l B) lyo → Calls Try.prog 29 #[.slice P' m cp', .slice P np cp] w' (LessR m (PWh.less (PWh.paid l B) lyp) (.slice P' m cp') (.slice P np cp) (.slice O' m co') (.slice O no co) (PWh.paid l B) lyp (PWh.owed l B) lyo w')) := Lib.hid (fun w' h => (wless_any h.1 h.2.1 (by rw [HPN.out, PWh.paid_len, hl.out]; exact hx1.out) MP.out YP.out (by rw [PWh.paid_len, hl.out]; omega)).mono fun e w'' ⟨v, he, hv, hb, hf⟩ => by
    obtain ⟨A, k, rfl, h1, h2, h3⟩ := hv
    have hk : (PWh.less (PWh.paid l B) lyp).length = m := by rw [PWh.less_len, PWh.paid_len, hl.out]
    exact ⟨A, k, by rw [he, hk], ⟨A, k, by rw [hk], h1, h2, h3⟩, hb, h.on hb, by rw [hk] at hf; exact hf⟩)
  have C2 : Hid (∀ w', V4 w' (.slice P' m cp') (.slice P np cp) (.slice O' m co') (.slice O no co) (PWh.paid l B) lyp (PWh.owed l B) lyo → Calls Try.prog 29 #[.slice O' m co', .slice O no co] w' (LessR m (PWh.less (PWh.owed l B) lyo) (.slice P' m cp') (.slice P np cp) (.slice O' m co') (.slice O no co) (PWh.paid l B) lyp (PWh.owed l B) lyo w')) := Lib.hid (fun w' h => (wless_any h.2.2.1 h.2.2.2 (by rw [HON.out, PWh.owed_len, hl.out]; exact hx2.out) MO.out YO.out (by rw [PWh.owed_len, hl.out]; omega)).mono fun e w'' ⟨v, he, hv, hb, hf⟩ => by
    obtain ⟨A, k, rfl, h1, h2, h3⟩ := hv
    have hk : (PWh.less (PWh.owed l B) lyo).length = m := by rw [PWh.less_len, PWh.owed_len, hl.out]
    exact ⟨A, k, by rw [he, hk], ⟨A, k, by rw [hk], h1, h2, h3⟩, hb, h.on hb, by rw [hk] at hf; exact hf⟩)
  have CA := C1.out _ G4.dr
  have CD := C1.out _ G4.z.dr
  have XA := Box.new w4 30 [.int .i64 0, .int .i64 0, .int .i64 0, .slice none 0 0, .slice none 0 0]
  clear G4
  obtain ⟨Z, hZ⟩ : ∃ Z, (X : Int) - yx = Z := ⟨_, rfl⟩
  have HZ := Lib.hid hZ
  have hEw : E < w4.heap.size := XE4.out.1
  have hLw : L + 1 < w4.heap.size := by omega
  have hG1 := ne_of hEw (Nat.le_refl _)
  have hG2 := ne_of hLw (Nat.le_refl _)
  have hwz : IntKind.i64.wrap Z = Z := by rw [IntKind.wrap_i64]; omega
  clear c0 c1 q0 q1 z0 z1
  go_wp2_with fail
  go_cut [13] (fun g wx => ∃ (G : Nat) (A5 A6 : Option Addr) (k5 k6 : Nat), g = .pointer (some ⟨G, 0, none⟩) ∧ Hid (StpC w4 G t b Z (.slice A5 m k5) (.slice A6 m k6) (PWh.less (PWh.paid l B) lyp) (PWh.less (PWh.owed l B) lyo) wx))
  case first =>
    have ZW : (w4.cell? ⟨E, 2, none⟩ = some (.int .i64 (X : Int)) ∧ w4.cell? ⟨E, 3, none⟩ = some (.slice P' m cp') ∧ w4.cell? ⟨E, 4, none⟩ = some (.slice O' m co')) ∧ w4.cell? ⟨L + 1, 2, none⟩ = some (.int .i64 yx) ∧ w4.cell? ⟨L + 1, 3, none⟩ = some (.slice P np cp) ∧ w4.cell? ⟨L + 1, 4, none⟩ = some (.slice O no co) := ⟨⟨z2, z3, z4⟩, q2, q3, q4⟩
    have ZB := keep33' (((Below.refl w4.heap.size w4).alloc (Nat.le_refl _) (.cells #[.int .i64 0, .int .i64 0, .int .i64 0, .slice none 0 0, .slice none 0 0] 30)).drew) ZW
    have ZZ : (w4.drew.cell? ⟨E, 2, none⟩ = some (.int .i64 (X : Int)) ∧ w4.drew.cell? ⟨E, 3, none⟩ = some (.slice P' m cp') ∧ w4.drew.cell? ⟨E, 4, none⟩ = some (.slice O' m co')) ∧ w4.drew.cell? ⟨L + 1, 2, none⟩ = some (.int .i64 yx) ∧ w4.drew.cell? ⟨L + 1, 3, none⟩ = some (.slice P np cp) ∧ w4.drew.cell? ⟨L + 1, 4, none⟩ = some (.slice O no co) := ⟨⟨z2, z3, z4⟩, q2, q3, q4⟩
    go_region_held3 (fun w' => (w'.cell? ⟨E, 2, none⟩ = some (.int .i64 (X : Int)) ∧ w'.cell? ⟨E, 3, none⟩ = some (.slice P' m cp') ∧ w'.cell? ⟨E, 4, none⟩ = some (.slice O' m co')) ∧ w'.cell? ⟨L + 1, 2, none⟩ = some (.int .i64 yx) ∧ w'.cell? ⟨L + 1, 3, none⟩ = some (.slice P np cp) ∧ w'.cell? ⟨L + 1, 4, none⟩ = some (.slice O no co))
      (first
        | with_reducible exact ZZ
        | with_reducible exact ZB
        | with_reducible exact Z5
        | with_reducible exact Z6
        | with_reducible exact ka Z5
        | with_reducible exact ka Z6
        | with_reducible exact far33 Z6 hG1 hG2 rfl
        | with_reducible exact far33 Z6 hG3 hG4 rfl)
      (first
        | (go_at_call 29; (with_reducible refine CA.mono ?_); rintro _ w5 ⟨A5, k5, rfl, V5, hb5, G5, F5⟩; have Z5 := keep33' hb5 ZZ; have CB := C2.out w5 G5; have CC := C2.out _ G5.z; have hs5 := size_dr hb5; have hG3 := ne_of hEw hs5; have hG4 := ne_of hLw hs5)
        | (go_at_call 29; (with_reducible refine CD.mono ?_); rintro _ w5 ⟨A5, k5, rfl, V5, hb5, G5, F5⟩; have Z5 := keep33' hb5 ZB; have CB := C2.out w5 G5; have X5 := zon XA hb5)
        | (go_at_call 29; (with_reducible refine CB.mono ?_); rintro _ w6 ⟨A6, k6, rfl, V6, hb6, G6, F6⟩; have Z6 := keep33' hb6 Z5; have X6 := X5.on hb6; have x6a := box5 X6; have x6b := box5f X6; rcases x6a with ⟨x60, x61, x62, x63, x64⟩; rcases x6b with ⟨x65, x66, x67, x68, x69⟩)
        | (go_at_call 29; (with_reducible refine CB.mono ?_); rintro _ w6 ⟨A6, k6, rfl, V6, hb6, G6, F6⟩; have Z6 := keep33' hb6 Z5)
        | (go_at_call 29; (with_reducible refine CC.mono ?_); rintro _ w6 ⟨A6, k6, rfl, V6, hb6, G6, F6⟩; have Z6 := keep33z hb6 Z5; have X6 := zbox hb6; have x6a := box5 X6; have x6b := box5f X6; rcases x6a with ⟨x60, x61, x62, x63, x64⟩; rcases x6b with ⟨x65, x66, x67, x68, x69⟩))
    all_goals
      clear ZW ZZ ZB XA CA CD C1 C2 q2 q3 q4 z2 z3 z4
      go_wp2_with fail
      go_meet
    · exact ⟨_, A5, A6, k5, k6, rfl, Lib.hid (stpc_new _ (V5.on hb6) V6 (below_step (below_undrew hb5) hb6) (F5.older (Nat.le_refl _)) (F6.older hs5))⟩
    · exact ⟨_, A5, A6, k5, k6, rfl, Lib.hid (stpc_set X6 ((V5.on ((Below.refl _ _).alloc (Nat.le_refl _) _)).on hb6) V6 (below_step (below_step (below_undrew hb5) ((Below.refl _ _).alloc (Nat.le_refl _) _)) hb6) hs5 V5.apart_lt (F6.apart (by simp)) (F5.older (Nat.le_refl _)) (F6.older (by simp; omega)))⟩
    · have hs5 := hb5.size
      exact ⟨_, A5, A6, k5, k6, rfl, Lib.hid (stpc_set X6 (V5.on hb6) V6 (below_step (below_step ((Below.refl _ _).alloc (Nat.le_refl _) _) (below_undrew hb5)) hb6) (Nat.le_refl _) (F5.apart (show w4.heap.size < _ by simp)) (F6.apart (by simp at hs5; omega)) (F5.older (by simp)) (F6.older (by simp at hs5; omega)))⟩
  case rest =>
    obtain ⟨G, A5, A6, k5, k6, rfl, HC⟩ := hcut
    have hG := HC.out.2.2.2.2.1
    have G5 := Lib.hid HC.out.2.2.2.2.2.1; have G6 := Lib.hid HC.out.2.2.2.2.2.2
    have hBw := HC.out.2.2.2.1
    have XE5 := Lib.hid (XE4.out.on hBw); have XZ5 := Lib.hid (XZ4.out.on hBw); have XQ5 := Lib.hid (XQ4.out.on hBw)
    have XG5 := Lib.hid HC.out.1
    have P5 := Lib.hid (S1'.out.on hBw); have O5 := Lib.hid (S2'.out.on hBw)
    have V5 := Lib.hid HC.out.2.1; have V6 := Lib.hid HC.out.2.2.1
    have B5 := Lib.hid (below_step B4.out hBw)
    have hLE : L + 3 < E := hE
    have hEG : E < G := by omega
    clear hBw HC C1 C2 CA CD XA q2 q3 q4 z2 z3 z4
    obtain ⟨z0, z1, z2, z3, z4⟩ := box5 XE5.out
    obtain ⟨x0, x1, x2, x3, x4⟩ := box5 XG5.out
    obtain ⟨f0, f1, f2, f3, f4⟩ := box5f XZ5.out
    obtain ⟨e0, e1, e2, e3, e4⟩ := box5 XZ5.out
    obtain ⟨f5, f6, f7, f8, f9⟩ := box5f XQ5.out
    obtain ⟨e5, e6, e7, e8, e9⟩ := box5 XQ5.out
    go_wp2_with fail
    go_region
    obtain ⟨wz, hw, rb, rq, ON⟩ := store55 XZ5.out XQ5.out (by omega) (.int .i64 T) (.int .i64 B) (.int .i64 (X : Int)) (.slice P' m cp') (.slice O' m co') (.int .i64 t) (.int .i64 b) (.int .i64 Z) (.slice A5 m k5) (.slice A6 m k6)
    have FP2 : ∀ ad n c, (.slice P' m cp' : Value) = .slice (some ad) n c → L + 3 < ad.block := fun ad n c e => by injection e with e1 _ _; have := FP.out ad _ _ (by rw [e1]); omega
    have FO2 : ∀ ad n c, (.slice O' m co' : Value) = .slice (some ad) n c → L + 3 < ad.block := fun ad n c e => by injection e with e1 _ _; have := FO.out ad _ _ (by rw [e1]); omega
    have F52 : ∀ ad n c, (.slice A5 m k5 : Value) = .slice (some ad) n c → L + 3 < ad.block := fun ad n c e => by have := G5.out ad _ _ e; omega
    have F62 : ∀ ad n c, (.slice A6 m k6 : Value) = .slice (some ad) n c → L + 3 < ad.block := fun ad n c e => by have := G6.out ad _ _ e; omega
    have PZ := vsl_far5 (a := .int .i64 t) (b := .int .i64 b) (c := .int .i64 Z) (d := .slice A5 m k5) (e := .slice A6 m k6) (G := L + 3) (vsl_far5 (a := .int .i64 T) (b := .int .i64 B) (c := .int .i64 (X : Int)) (d := .slice P' m cp') (e := .slice O' m co') (G := L + 2) P5.out (fun _ ad n c e => by have := FP2 ad n c e; omega)) (fun _ ad n c e => by have := FP2 ad n c e; omega)
    have OZ := vsl_far5 (a := .int .i64 t) (b := .int .i64 b) (c := .int .i64 Z) (d := .slice A5 m k5) (e := .slice A6 m k6) (G := L + 3) (vsl_far5 (a := .int .i64 T) (b := .int .i64 B) (c := .int .i64 (X : Int)) (d := .slice P' m cp') (e := .slice O' m co') (G := L + 2) O5.out (fun _ ad n c e => by have := FO2 ad n c e; omega)) (fun _ ad n c e => by have := FO2 ad n c e; omega)
    have AZ := vsl_far5 (a := .int .i64 t) (b := .int .i64 b) (c := .int .i64 Z) (d := .slice A5 m k5) (e := .slice A6 m k6) (G := L + 3) (vsl_far5 (a := .int .i64 T) (b := .int .i64 B) (c := .int .i64 (X : Int)) (d := .slice P' m cp') (e := .slice O' m co') (G := L + 2) V5.out (fun _ ad n c e => by have := F52 ad n c e; omega)) (fun _ ad n c e => by have := F52 ad n c e; omega)
    have BZ' := vsl_far5 (a := .int .i64 t) (b := .int .i64 b) (c := .int .i64 Z) (d := .slice A5 m k5) (e := .slice A6 m k6) (G := L + 3) (vsl_far5 (a := .int .i64 T) (b := .int .i64 B) (c := .int .i64 (X : Int)) (d := .slice P' m cp') (e := .slice O' m co') (G := L + 2) V6.out (fun _ ad n c e => by have := F62 ad n c e; omega)) (fun _ ad n c e => by have := F62 ad n c e; omega)
    rw [hw] at PZ OZ AZ BZ'
    have HPZ := Lib.hid (PZ.on (Below.refl _ _).drew); have HOZ := Lib.hid (OZ.on (Below.refl _ _).drew); have HAZ := Lib.hid (AZ.on (Below.refl _ _).drew); have HBZ := Lib.hid (BZ'.on (Below.refl _ _).drew)
    have RR : ∀ v, (∀ ad n c, v = .slice (some ad) n c → L + 3 < ad.block) → Fresh w v := fun v h ad n c e => by have := h ad n c e; rw [HLw.out]; omega
    have FR1 := Lib.hid (RR _ FP2); have FR2 := Lib.hid (RR _ FO2); have FR3 := Lib.hid (RR _ F52); have FR4 := Lib.hid (RR _ F62)
    obtain ⟨k0', k1', k2', k3', k4'⟩ := box5 rb
    obtain ⟨k5', k6', k7', k8', k9'⟩ := box5 rq
    rw [← hw] at k0' k1' k2' k3' k4' k5' k6' k7' k8' k9'
    have HW := Lib.hid hw
    have BZ := Lib.hid ((ON (B := w.heap.size) (by have := HLw.out; omega) B5.out).drew)
    clear hw rb rq ON PZ OZ AZ BZ' RR FP2 FO2 F52 F62
    go_wp2_with fail
    (try simp only [Exit.inBlock, Exit.then])
    refine bodyPost_ret (by simp [results, Try.results18, go_sem, k0', k1', k2', k3', k4', k5', k6', k7', k8', k9']; try rfl) rfl ?_
    rw [HTT.out, HBB.out, HXX.out, HZ.out, HW.out]
    exact ⟨_, _, _, _, rfl, HPZ.out, HOZ.out, HAZ.out, HBZ.out, BZ.out, FR1.out, FR2.out, FR3.out, FR4.out⟩
end Go.Proofs.Ytpfpcnfodjmgcaa

namespace Go.Proofs.Ytpfpcnfodjmgcaa
open Go.RowKit

theorem fund_recTy : RecTy fundR 65 35 24 where
  info := ⟨.agg #[.int .i64 0, .int .i64 0, .int .i64 0], by kernel_rfl, rfl⟩
  under := Try.underlying35
  few := by decide

theorem small_yes {A F : Option Addr} {n ca m cf : Nat} (w : World) (h : n ≤ 40 ∧ m ≤ 40) :
    Calls Try.prog 9 #[.agg #[.slice A n ca, .slice F m cf]] w fun e w' => e = .returned (.bool true) ∧ Below w.heap.size w w' := by
  obtain ⟨h1, h2⟩ := h
  have i1 : (n : Int) ≤ 40 := by omega
  have i2 : (m : Int) ≤ 40 := by omega
  clear h1 h2
  go_enter Try.func9, Try.ntmps9
  go_wp2_with fail
  go_ret
  exact ⟨by first | rfl | (simp; done) | (simp; omega), (Below.refl _ _).alloc (Nat.le_refl _) _⟩
theorem small_no {A F : Option Addr} {n ca m cf : Nat} (w : World) (h : ¬ (n ≤ 40 ∧ m ≤ 40)) :
    Calls Try.prog 9 #[.agg #[.slice A n ca, .slice F m cf]] w fun e w' => e = .returned (.bool false) ∧ Below w.heap.size w w' := by
  by_cases h1 : n ≤ 40
  · have h2 : ¬ m ≤ 40 := fun k => h ⟨h1, k⟩
    have i1 : (n : Int) ≤ 40 := by omega
    have i2 : ¬ (m : Int) ≤ 40 := by omega
    clear h h1 h2
    go_enter Try.func9, Try.ntmps9
    go_wp2_with fail
    go_ret
    exact ⟨by first | rfl | (simp; done) | (simp; omega), (Below.refl _ _).alloc (Nat.le_refl _) _⟩
  · have i1 : ¬ (n : Int) ≤ 40 := by omega
    clear h h1
    go_enter Try.func9, Try.ntmps9
    go_wp2_with fail
    go_ret
    exact ⟨by first | rfl | (simp; done) | (simp; omega), (Below.refl _ _).alloc (Nat.le_refl _) _⟩

/-- A call that answers a scheme as the document's. -/
def SchR (A : Option Addr) (n ca : Nat) (l : List PWh.Fund) (w : World) (e : Ending) (w' : World) : Prop := ∃ F cf, e = .returned (.agg #[.slice A n ca, .slice F l.length cf]) ∧ SlF w' F l.length l ∧ Below w.heap.size w w'

set_option maxHeartbeats 3200000 in
set_option maxRecDepth 100000 in
theorem lref_any {A F : Option Addr} {n ca m cf : Nat} {l : List PWh.Fund} {w : World} (hF : SlF w F m l) (hm : m ≤ 40) :
    Calls Try.prog 13 #[.agg #[.slice A n ca, .slice F m cf]] w (SchR A n ca l w) := by
  have HF := Lib.hid hF
  have hl := Lib.hid hF.len
  clear hF
  go_enter Try.func13, Try.ntmps13
  go_upto_region 1 with fail
  obtain ⟨w1, hw1, XS, XZ, b1, hs1⟩ := enter2 w 25 37 [.slice A n ca, .slice F m cf] [.slice none 0 0, .slice none 0 0]
  rw [hw1]
  obtain ⟨L, hL⟩ : ∃ L, w.heap.size = L := ⟨_, rfl⟩
  rw [hL] at XS XZ hs1 ⊢
  have XS1 := Lib.hid XS; have XZ1 := Lib.hid XZ; have B1 := Lib.hid b1; have HLw := Lib.hid hL
  clear hw1 hL b1 XS XZ hs1
  obtain ⟨c0, c1⟩ := box2 XS1.out
  go_upto_region 2 with fail
  have b4 : Below w1.heap.size w1 (w1.alloc (.cells #[.slice A n ca, .slice none 0 0] 37)) := (Below.refl _ _).alloc (Nat.le_refl _) _
  have hLD : L + 1 < w1.heap.size := XZ1.out.1
  have XS4 := Lib.hid (XS1.out.on b4); have XZ4 := Lib.hid (XZ1.out.on b4); have B4 := Lib.hid (below_step B1.out b4)
  have XD4 := Lib.hid (Box.new w1 37 [.slice A n ca, .slice none 0 0])
  obtain ⟨D, hD⟩ : ∃ D, w1.heap.size = D := ⟨_, rfl⟩
  rw [hD] at hLD XD4 ⊢
  generalize w1.alloc (.cells [.slice A n ca, .slice none 0 0].toArray 37) = w4 at *
  clear b4 XS1 XZ1 B1 hD c0 c1
  obtain ⟨c0, c1⟩ := box2 XS4.out
  go_wp2_with fail
  go_loopw [12] (fun i wr => ∃ (k nv cv : Nat) (V : Option Addr), k ≤ m ∧ i = .int .i64 k ∧ Hid (Box wr D [.slice A n ca, .slice V nv cv]) ∧ Hid (wr.ownsRow (D + 1) 65 3 (.slice V nv cv) (l.take k).length (fundR.cells (l.take k))) ∧ Hid (Below D w4 wr)) (fun i _ => m - (intOf i).toNat)
  case atStart => exact ⟨0, 0, 0, none, Nat.zero_le _, rfl, XD4, (show Hid _ from ⟨rfl, .inl ⟨rfl, rfl⟩⟩), (show Hid _ from Below.refl _ _)⟩
  case round =>
    clear c0 c1 XD4
    obtain ⟨k, nv, cv, V, hk, rfl, HX, HO, HW⟩ := hrel
    have HWw : Hid (Below w.heap.size w wr) := Lib.hid (B4.out.trans (HW.out.mono (by have := HLw.out; omega)))
    by_cases hlt : k < m
    · obtain ⟨bf, off, rfl, hc⟩ := HF.out.cells hlt
      have hkl : k < l.length := by rw [hl.out]; exact hlt
      obtain ⟨d1, d2, d3⟩ := hc k hkl
      replace d1 := (HWw.out.cell (World.block_lt_of_cell? w _ d1)).trans d1
      replace d2 := (HWw.out.cell (World.block_lt_of_cell? w _ d2)).trans d2
      replace d3 := (HWw.out.cell (World.block_lt_of_cell? w _ d3)).trans d3
      have HN := Lib.hid (show l.take (k + 1) = l.take k ++ [l[k]] from List.take_succ_eq_append_getElem hkl)
      have HLk := Lib.hid (show (l.take k).length = k by rw [List.length_take]; omega)
      obtain ⟨f, hf⟩ : ∃ f, l[k] = f := ⟨_, rfl⟩
      rw [hf] at d1 d2 d3 HN
      obtain ⟨LT, hLT⟩ : ∃ LT, l.take k = LT := ⟨_, rfl⟩
      rw [hLT] at HN HLk HO
      obtain ⟨x, y, z⟩ := f
      dsimp only at d1 d2 d3
      have i1 : (0 : Int) ≤ (k : Int) := by omega
      have i2 : (k : Int) < (m : Int) := by omega
      clear hf hc hLT
      go_upto_region 5 with fail
      have b5 : Below wr.heap.size wr (wr.alloc (.cells #[.int .i64 x, .int .i64 y, .int .i64 z] 56)) := (Below.refl _ _).alloc (Nat.le_refl _) _
      have g0 : (wr.alloc (.cells #[.int .i64 x, .int .i64 y, .int .i64 z] 56)).cell? ⟨wr.heap.size, 0, none⟩ = some (.int .i64 x) := by go_simp
      have g1 : (wr.alloc (.cells #[.int .i64 x, .int .i64 y, .int .i64 z] 56)).cell? ⟨wr.heap.size, 1, none⟩ = some (.int .i64 y) := by go_simp
      have g2 : (wr.alloc (.cells #[.int .i64 x, .int .i64 y, .int .i64 z] 56)).cell? ⟨wr.heap.size, 2, none⟩ = some (.int .i64 z) := by go_simp
      have HX5 := Lib.hid (HX.out.on b5)
      have HO5 := Lib.hid (own_below HO.out b5)
      have HW5 := Lib.hid (HW.out.trans (b5.mono (Nat.le_of_lt HX.out.1)))
      obtain ⟨G, hG⟩ : ∃ G, wr.heap.size = G := ⟨_, rfl⟩
      rw [hG] at g0 g1 g2 ⊢
      generalize wr.alloc (.cells #[.int .i64 x, .int .i64 y, .int .i64 z] 56) = w5 at *
      clear b5 hG HX HO HW HWw d1 d2 d3
      have hsz : D + 1 ≤ w5.heap.size := HX5.out.1
      obtain ⟨e0, e1⟩ := box2 HX5.out
      have f1 := HX5.out.f 1 (v := .slice V nv cv) rfl
      go_wp2_with (at_builtin; refine append_rec fund_recTy rfl _ _ rfl (D + 1) (.slice V nv cv) LT ⟨x, y, z⟩ (by rfl) HO5.out (by rfl) (by rw [HLk.out]; omega) hsz ?_)
      intro p' w6 hown6 hb6
      obtain ⟨P1, cpn, rfl⟩ := own_shape hown6
      have hX6 := HX5.out.keep hb6 (Nat.lt_succ_self D)
      have HX7 := Lib.hid (hX6.set 1 (by simp) (.slice P1 (LT.length + 1) cpn))
      have HO7 : Hid ((w6.setCell ⟨D, 1, none⟩ (.slice P1 (LT.length + 1) cpn)).ownsRow (D + 1) 65 3 (.slice P1 (LT.length + 1) cpn) (l.take (k + 1)).length (fundR.cells (l.take (k + 1)))) := Lib.hid (by
        rw [HN.out, List.length_append]
        exact own_set hown6 (Nat.lt_succ_self D))
      have HW7 := Lib.hid ((HW5.out.trans (hb6.mono (Nat.le_succ D))).setCell (p := ⟨D, 1, none⟩) (Nat.le_refl D) (.slice P1 (LT.length + 1) cpn))
      have HX6 := Lib.hid hX6
      clear hown6 hb6 hX6 HN e0 e1 f1 HX5 HO5 HW5
      obtain ⟨e0, e1⟩ := box2 HX6.out
      have f1 := HX6.out.f 1 (v := .slice V nv cv) rfl
      go_wp2_with fail
      exact ⟨⟨k + 1, _, _, _, by omega, by congr 1, HX7, HO7, HW7⟩, by simp [intOf]; omega⟩
    · obtain rfl : k = m := by omega
      have HT : Hid (l.take k = l) := Lib.hid (List.take_of_length_le (by rw [hl.out]; omega))
      rw [HT.out] at HO
      have hV : nv = l.length := by
        rcases HO.out.2 with ⟨h, h0⟩ | ⟨g, cap, cur, h, _⟩
        · injection h with _ h _; omega
        · injection h with _ h _
      have HXZ := Lib.hid (XZ4.out.keep HW.out (by omega))
      obtain ⟨e0, e1⟩ := box2 HXZ.out
      have f0 := HXZ.out.f 0 (v := .slice none 0 0) rfl
      have f1 := HXZ.out.f 1 (v := .slice none 0 0) rfl
      obtain ⟨g0, g1⟩ := box2 HX.out
      obtain ⟨wz, hw, rb, ON⟩ := store2 HXZ.out (.slice A n ca) (.slice V nv cv)
      obtain ⟨k0', k1'⟩ := box2 rb
      have hO := own_set (D := L + 1) (j := 1) (u := .slice V nv cv) (own_set (D := L + 1) (j := 0) (u := .slice A n ca) HO.out (by omega)) (by omega)
      rw [hw] at hO
      rw [← hw] at k0' k1'
      have HWz := Lib.hid hw
      have BZ := Lib.hid (ON.below (B := w.heap.size) (by have := HLw.out; omega) HWw.out)
      have HOz := Lib.hid hO
      have HV := Lib.hid hV
      clear hw rb ON hO hV
      go_wp2_with fail
      (try simp only [Exit.inBlock, Exit.then])
      refine bodyPost_ret (by simp [results, Try.results13, go_sem, k0', k1']; try rfl) rfl ?_
      rw [HWz.out]
      obtain ⟨V', cv', e, _, _, hs⟩ := slr_of_own HOz.out rfl
      injection e with e1 e2 e3
      subst e1; subst e2; subst e3
      exact ⟨_, _, rfl, ⟨hs, HF.out.2.1, by rw [hl.out]; exact HF.out.2.2⟩, BZ.out⟩
end Go.Proofs.Ytpfpcnfodjmgcaa

namespace Go.Proofs.Ytpfpcnfodjmgcaa
open Go.RowKit

def wA (_ : Nat) : Int := 0
def wR (_ : Nat) : Int := 1000
def wF : List PWh.Fund := [⟨500, 700, 15000⟩]
theorem wrt : PWh.Rt wA wR 1 wF := ⟨⟨⟨by omega, by omega, rfl⟩, fun i hi => ⟨by unfold wR; omega, fun h => by omega⟩⟩, by decide, fun i hi _ => by
  have : i = 0 := by simp [wF] at hi; omega
  subst this
  show PWh.Ok ⟨500, 700, 15000⟩
  exact ⟨⟨by decide, by decide⟩, ⟨by decide, by decide⟩, by decide⟩⟩
theorem wtax1 : PBr.tax wA wR 1 10000 = 1000 := by decide +kernel
theorem wtax0 : PBr.tax wA wR 1 0 = 0 := by decide +kernel
theorem wpaid1 : PWh.paid wF 10000 = [500] := by decide +kernel
theorem wowed1 : PWh.owed wF 10000 = [700] := by decide +kernel
theorem wpaid2 : PWh.paid wF 20000 = [750] := by decide +kernel
theorem wowed2 : PWh.owed wF 20000 = [1050] := by decide +kernel
theorem wless1 : PWh.less [500] [] = [500] := by decide +kernel
theorem wless2 : PWh.less [700] [] = [700] := by decide +kernel
theorem wless3 : PWh.less [750] [500] = [250] := by decide +kernel
theorem wless4 : PWh.less [1050] [700] = [350] := by decide +kernel
theorem wstep1 {A F : Option Addr} {ca cf : Nat} {w : World} (hA : SlP w A 1 wA wR) (hF : SlF w F 1 wF) :
    Calls Try.prog 18 #[.agg #[.slice A 1 ca, .slice F 1 cf], .agg #[.int .i64 0, .int .i64 0, .int .i64 0, .slice none 0 0, .slice none 0 0], .int .i64 10000, .int .i64 10000] w (StpR 10000 10000 1000 [500] [700] 10000 10000 1000 [500] [700] 0 w) := by
  have := wstep_yes (ca := ca) (cf := cf) (yt := 0) (yb := 0) (yx := 0) (t := 10000) (b := 10000) hA hF wrt (by unfold Near6 Nr; omega) ⟨.inl rfl, .inl rfl⟩ (vsl_nil w) (vsl_nil w) (by unfold PWh.Mid; omega) (fun i hi => by simp at hi) (fun i hi => by simp at hi)
  simp only [Int.zero_add, wtax1, wpaid1, wowed1, wless1, wless2] at this
  exact this
theorem wstep2 {A F P O : Option Addr} {ca cf cp co : Nat} {w : World} (hA : SlP w A 1 wA wR) (hF : SlF w F 1 wF) (hp : VSl w (.slice P 1 cp) [500]) (ho : VSl w (.slice O 1 co) [700]) :
    Calls Try.prog 18 #[.agg #[.slice A 1 ca, .slice F 1 cf], .agg #[.int .i64 10000, .int .i64 10000, .int .i64 1000, .slice P 1 cp, .slice O 1 co], .int .i64 (-10000), .int .i64 10000] w (StpR 0 20000 0 [750] [1050] (-10000) 10000 (-1000) [250] [350] 0 w) := by
  have := wstep_yes (ca := ca) (cf := cf) (yt := 10000) (yb := 10000) (yx := 1000) (t := -10000) (b := 10000) hA hF wrt (by unfold Near6 Nr; omega) ⟨.inr rfl, .inr rfl⟩ hp ho (by unfold PWh.Mid; omega) (fun i hi => by
    have : i = 0 := by simp at hi; omega
    subst this; unfold PWh.Mid; simp [List.getD]) (fun i hi => by
    have : i = 0 := by simp at hi; omega
    subst this; unfold PWh.Mid; simp [List.getD])
  simp only [show (10000 : Int) + -10000 = 0 from rfl, show (10000 : Int) + 10000 = 20000 from rfl, wtax0, wpaid2, wowed2, wless3, wless4, show ((0 : Nat) : Int) - 1000 = -1000 from rfl] at this
  exact this
theorem vsl_one {w : World} {v : Value} {z : Int} (h : VSl w v [z]) : ∃ b off c, v = .slice (some ⟨b, off, none⟩) 1 c ∧ w.cell? ⟨b, off, none⟩ = some (.int .i64 z) := by
  obtain ⟨P, cp, rfl, _, _, hs⟩ := h
  rcases hs.2.2.2 with h | ⟨b, off, rfl, h⟩
  · simp at h
  · have := h 0 (by simp)
    exact ⟨b, off, cp, rfl, by simpa using this⟩

theorem slf_one (w : World) (t : TypeId) (x y z : Int) (h : PWh.In ⟨x, y, z⟩) : SlF (w.alloc (.cells #[.int .i64 x, .int .i64 y, .int .i64 z] t)) (some ⟨w.heap.size, 0, none⟩) 1 [⟨x, y, z⟩] := by
  have B := Box.new w t [.int .i64 x, .int .i64 y, .int .i64 z]
  refine ⟨⟨rfl, .inr ⟨w.heap.size, 0, rfl, fun i hi j v e => ?_⟩⟩, fun i hi => ?_, by omega⟩
  · obtain rfl : i = 0 := by simp at hi; omega
    have := B.c j e
    simpa [fundR] using this
  · obtain rfl : i = 0 := by simp at hi; omega
    exact h
/-- The scheme of the fixed answer lies in three new blocks. -/
theorem awake_world (w : World) : ∃ w1, (((w.alloc (.cells #[.int .i64 0, .int .i64 1000] 54)).alloc (.cells #[.int .i64 500, .int .i64 700, .int .i64 15000] 56)).alloc (.cells #[.slice (some ⟨w.heap.size, 0, none⟩) 1 1, .slice (some ⟨w.heap.size + 1, 0, none⟩) 1 1] 25)) = w1 ∧
    SlP w1 (some ⟨w.heap.size, 0, none⟩) 1 wA wR ∧ SlF w1 (some ⟨w.heap.size + 1, 0, none⟩) 1 wF ∧ Box w1 (w.heap.size + 2) [.slice (some ⟨w.heap.size, 0, none⟩) 1 1, .slice (some ⟨w.heap.size + 1, 0, none⟩) 1 1] ∧ Below w.heap.size w w1 := by
  refine ⟨_, rfl, ?_, ?_, Box.new' _ _ [.slice (some ⟨w.heap.size, 0, none⟩) 1 1, .slice (some ⟨w.heap.size + 1, 0, none⟩) 1 1] (by simp), (((Below.refl _ _).alloc (Nat.le_refl _) _).alloc (by simp) _).alloc (by simp; omega) _⟩
  · exact ((slp_one w 54 0 1000 (by omega) (by omega)).on ((Below.refl _ _).alloc (Nat.le_refl _) _)).on ((Below.refl _ _).alloc (Nat.le_refl _) _)
  · have := slf_one (w.alloc (.cells #[.int .i64 0, .int .i64 1000] 54)) 56 500 700 15000 (by unfold PWh.In; simp)
    have := this.on ((Below.refl _ _).alloc (Nat.le_refl _) (.cells #[.slice (some ⟨w.heap.size, 0, none⟩) 1 1, .slice (some ⟨w.heap.size + 1, 0, none⟩) 1 1] 25))
    simpa [wF] using this

set_option maxHeartbeats 6400000 in
set_option maxRecDepth 100000 in
theorem awake_any (w : World) : Calls Try.prog 10 #[] w fun e w' => e = .returned (.bool true) ∧ Below w.heap.size w w' := by
  go_enter Try.func10, Try.ntmps10
  go_upto_region 2 with fail
  obtain ⟨w1, hw1, hA, hF, hX, hb⟩ := awake_world w
  rw [hw1]
  obtain ⟨L, hL⟩ : ∃ L, w.heap.size = L := ⟨_, rfl⟩
  rw [hL] at hA hF hX ⊢
  have HA := Lib.hid hA; have HF := Lib.hid hF; have HX := Lib.hid hX; have B1 := Lib.hid hb; have HLw := Lib.hid hL
  clear hA hF hX hb hw1 hL
  obtain ⟨c0, c1⟩ := box2 HX.out
  go_wp2_with fail
  refine (wstep1 HA.out HF.out).mono ?_
  rintro _ w2 ⟨p, o, p', o', rfl, v1, v2, v3, v4, b2, -, -, -, -⟩
  obtain ⟨b1, o1, k1, rfl, q1⟩ := vsl_one v1
  obtain ⟨b2', o2, k2, rfl, q2⟩ := vsl_one v2
  obtain ⟨b3, o3, k3, rfl, q3⟩ := vsl_one v3
  obtain ⟨b4, o4, k4, rfl, q4⟩ := vsl_one v4
  have HA2 := Lib.hid (HA.out.on b2); have HF2 := Lib.hid (HF.out.on b2); have HX2 := Lib.hid (HX.out.on b2); have B2 := Lib.hid (below_step B1.out b2)
  have V1 := Lib.hid v1; have V2 := Lib.hid v2; have Q3 := Lib.hid q3
  clear b2 c0 c1 v1 v2 v3 v4 q1 q2 q3 q4 HA HF HX B1
  unfold yrV
  go_upto_region 3 with fail
  obtain ⟨w3, hw3, XY, XM, b3', hs3⟩ := enter2 w2 30 30 [.int .i64 10000, .int .i64 10000, .int .i64 1000, .slice (some ⟨b1, o1, none⟩) 1 k1, .slice (some ⟨b2', o2, none⟩) 1 k2] [.int .i64 10000, .int .i64 10000, .int .i64 1000, .slice (some ⟨b3, o3, none⟩) 1 k3, .slice (some ⟨b4, o4, none⟩) 1 k4]
  rw [hw3]
  obtain ⟨M, hM⟩ : ∃ M, w2.heap.size = M := ⟨_, rfl⟩
  rw [hM] at XY XM hs3 ⊢
  have HA3 := Lib.hid (HA2.out.on b3'); have HF3 := Lib.hid (HF2.out.on b3'); have HX3 := Lib.hid (HX2.out.on b3'); have B3 := Lib.hid (below_step B2.out b3')
  have HY3 := Lib.hid XY; have HM3 := Lib.hid XM
  have V13 := Lib.hid (V1.out.on b3'); have V23 := Lib.hid (V2.out.on b3'); have Q33 := Lib.hid (keepc b3' Q3.out)
  clear hw3 XY XM b3' hs3 hM V1 V2 Q3 HA2 HF2 HX2 B2
  obtain ⟨c0, c1⟩ := box2 HX3.out
  obtain ⟨y0, y1, y2, y3, y4⟩ := box5 HY3.out
  go_wp2_with fail
  refine (wstep2 HA3.out HF3.out V13.out V23.out).mono ?_
  rintro _ w4 ⟨p, o, p', o', rfl, v1, v2, v3, v4, b4', -, -, -, -⟩
  obtain ⟨b5, o5, k5, rfl, -⟩ := vsl_one v1
  obtain ⟨b6, o6, k6, rfl, -⟩ := vsl_one v2
  obtain ⟨b7, o7, k7, rfl, q7⟩ := vsl_one v3
  obtain ⟨b8, o8, k8, rfl, -⟩ := vsl_one v4
  have HA4 := Lib.hid (HA3.out.on b4'); have HF4 := Lib.hid (HF3.out.on b4'); have HX4 := Lib.hid (HX3.out.on b4'); have B4 := Lib.hid (below_step B3.out b4')
  have HM4 := Lib.hid (HM3.out.on b4'); have Q34 := Lib.hid (keepc b4' Q33.out); have Q74 := Lib.hid q7
  clear b4' c0 c1 y0 y1 y2 y3 y4 v1 v2 v3 v4 q7 HA3 HF3 HX3 B3 HY3 HM3 V13 V23 Q33
  unfold yrV
  go_upto_region 4 with fail
  obtain ⟨w5, hw5, XY, XM, b5', hs5⟩ := enter2 w4 30 30 [.int .i64 0, .int .i64 20000, .int .i64 0, .slice (some ⟨b5, o5, none⟩) 1 k5, .slice (some ⟨b6, o6, none⟩) 1 k6] [.int .i64 (-10000), .int .i64 10000, .int .i64 (-1000), .slice (some ⟨b7, o7, none⟩) 1 k7, .slice (some ⟨b8, o8, none⟩) 1 k8]
  rw [hw5]
  obtain ⟨K, hK⟩ : ∃ M, w4.heap.size = M := ⟨_, rfl⟩
  rw [hK] at XY XM hs5 ⊢
  have HR : Hid (∀ w', Below w5.heap.size w5 w' → Calls Try.prog 14 #[.agg #[.slice (some ⟨L, 0, none⟩) 1 1, .slice (some ⟨L + 1, 0, none⟩) 1 1]] w' fun e w'' => e = .returned (.bool true) ∧ Below w'.heap.size w' w'') := Lib.hid (fun w' h => wright_any ((HA4.out.on b5').on h) ((HF4.out.on b5').on h) ⟨fun _ => wrt, fun _ => rfl⟩)
  have HX5 := Lib.hid (HX4.out.on b5'); have B5 := Lib.hid (below_step B4.out b5')
  have HM5 := Lib.hid (HM4.out.on b5'); have q3 := keepc b5' Q34.out; have q7 := keepc b5' Q74.out
  have HZ5 := Lib.hid XY; have HN5 := Lib.hid XM
  clear hw5 XY XM b5' hs5 hK HA4 HF4 HX4 B4 HM4 Q34 Q74
  obtain ⟨c0, c1⟩ := box2 HX5.out
  obtain ⟨m0, m1, m2, m3, m4⟩ := box5 HM5.out
  obtain ⟨z0, z1, z2, z3, z4⟩ := box5 HZ5.out
  obtain ⟨n0, n1, n2, n3, n4⟩ := box5 HN5.out
  go_wp2_with fail
  refine (HR.out _ (Below.refl _ _)).mono ?_
  rintro _ w6 ⟨rfl, b6⟩
  have B6 := Lib.hid (below_step B5.out b6)
  clear b6
  go_wp2_with fail
  go_ret
  exact ⟨rfl, B6.out⟩
end Go.Proofs.Ytpfpcnfodjmgcaa
