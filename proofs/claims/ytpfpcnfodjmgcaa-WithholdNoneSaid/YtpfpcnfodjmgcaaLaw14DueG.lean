/-
  WithholdDue: what is due of any amounts, by any scheme, and whether that is right, is what the document says, or refused.
-/
import Derived.Test.YtpfpcnfodjmgcaaGC
import Derived.Test.YtpfpcnfodjmgcaaGB
import Derived.Deep.RegionHeld3
namespace Go.Proofs.Ytpfpcnfodjmgcaa
open Go.RowKit

theorem rt_bool (a r : Nat → Int) (n : Nat) (l : List PWh.Fund) : ∃ y : Bool, y = true ↔ PWh.Rt a r n l := by
  by_cases h : PWh.Rt a r n l
  · exact ⟨true, fun _ => h, fun _ => rfl⟩
  · exact ⟨false, (fun k => by cases k), fun k => absurd k h⟩
/-- A year's five cells, a scheme's two. -/
def S52 (w : World) (Y L : Nat) (a b c d e f g : Value) : Prop := (w.cell? ⟨Y, 0, none⟩ = some a ∧ w.cell? ⟨Y, 1, none⟩ = some b ∧ w.cell? ⟨Y, 2, none⟩ = some c ∧ w.cell? ⟨Y, 3, none⟩ = some d ∧ w.cell? ⟨Y, 4, none⟩ = some e) ∧ w.cell? ⟨L, 0, none⟩ = some f ∧ w.cell? ⟨L, 1, none⟩ = some g
theorem keep52 {w w' : World} {p0 p1 p2 p3 p4 p5 p6 : Addr} {a b c d e f g : Value} (hb : Below w.heap.size w w') (h : (w.cell? p0 = some a ∧ w.cell? p1 = some b ∧ w.cell? p2 = some c ∧ w.cell? p3 = some d ∧ w.cell? p4 = some e) ∧ w.cell? p5 = some f ∧ w.cell? p6 = some g) :
    (w'.cell? p0 = some a ∧ w'.cell? p1 = some b ∧ w'.cell? p2 = some c ∧ w'.cell? p3 = some d ∧ w'.cell? p4 = some e) ∧ w'.cell? p5 = some f ∧ w'.cell? p6 = some g :=
  ⟨⟨keepc hb h.1.1, keepc hb h.1.2.1, keepc hb h.1.2.2.1, keepc hb h.1.2.2.2.1, keepc hb h.1.2.2.2.2⟩, keepc hb h.2.1, keepc hb h.2.2⟩

set_option maxHeartbeats 6400000 in
set_option maxRecDepth 100000 in
/-- What is refused. -/
theorem ldue_no {A F : Option Addr} {n ca m cf : Nat} {a r : Nat → Int} {l : List PWh.Fund} {w : World} {t b : Int} (hA : SlP w A n a r) (hF : SlF w F m l) (h40 : n ≤ 40 ∧ m ≤ 40) (hx : ¬ (PWh.Rt a r n l ∧ Nr t ∧ Nr b)) :
    Calls Try.prog 3 #[.agg #[.slice A n ca, .slice F m cf], .int .i64 t, .int .i64 b] w fun e w' => e = .returned (.bool true) ∧ Below w.heap.size w w' := by
  obtain ⟨bb, hb⟩ := rt_bool a r n l
  obtain ⟨y1, h1⟩ := near_bool t
  obtain ⟨y2, h2⟩ := near_bool b
  obtain ⟨E, hE⟩ : ∃ E : Int, E = if bb = true then 3 else 1 := ⟨_, rfl⟩
  have C1 : Hid (∀ w', Below w.heap.size w w' → Calls Try.prog 11 #[.agg #[.slice A n ca, .slice F m cf], .int .i64 t, .int .i64 b] w' (YrR 0 0 0 [] [] E w')) := Lib.hid (fun w' h => by
    cases bb with
    | true => rw [hE, if_pos rfl]; exact wdue_far (hA.on h) (hF.on h) (hb.1 rfl) (fun k => hx ⟨hb.1 rfl, k⟩)
    | false => rw [hE, if_neg (by decide)]; exact wdue_wrong (hA.on h) (hF.on h) (fun k => by have := hb.2 k; cases this))
  have C2 : Hid (∀ w', Below w.heap.size w w' → Calls Try.prog 14 #[.agg #[.slice A n ca, .slice F m cf]] w' fun e w'' => e = .returned (.bool bb) ∧ Below w'.heap.size w' w'') := Lib.hid (fun w' h => wright_any (hA.on h) (hF.on h) hb)
  have C3 : Hid (∀ w', Below w.heap.size w w' → Calls Try.prog 13 #[.agg #[.slice A n ca, .slice F m cf]] w' (SchR A n ca l w')) := Lib.hid (fun w' h => lref_any (hF.on h) h40.2)
  have C4 : Hid (∀ w' F' cf', Below w.heap.size w w' → SlF w' F' l.length l → Calls Try.prog 12 #[.agg #[.slice A n ca, .slice F' l.length cf']] w' fun e w'' => e = .returned (.bool bb) ∧ Below w'.heap.size w' w'') := Lib.hid (fun w' F' cf' h hf => rwright_any (hA.on h) hf hb)
  have N1 : Hid (∀ w, Calls Try.prog 15 #[.int .i64 t] w fun e w' => e = .returned (.bool (!y1)) ∧ w = w') := Lib.hid (fun w => far_any t w y1 h1)
  have N2 : Hid (∀ w, Calls Try.prog 15 #[.int .i64 b] w fun e w' => e = .returned (.bool (!y2)) ∧ w = w') := Lib.hid (fun w => far_any b w y2 h2)
  have SM := Lib.hid (fun w => small_yes (A := A) (F := F) (ca := ca) (cf := cf) w h40)
  have HX := Lib.hid (show ¬ (bb = true ∧ y1 = true ∧ y2 = true) from fun h => hx ⟨hb.1 h.1, h1.1 h.2.1, h2.1 h.2.2⟩)
  have e2 : (bb != bb) = false := bne_self_eq_false _
  have HE := Lib.hid hE
  clear hA hF hb h1 h2 hx h40 hE
  go_enter Try.func3, Try.ntmps3
  go_upto_region 1 with fail
  have XS := Box.new w 25 [.slice A n ca, .slice F m cf]
  have b1 : Below w.heap.size w (w.alloc (.cells #[.slice A n ca, .slice F m cf] 25)) := (Below.refl _ _).alloc (Nat.le_refl _) _
  obtain ⟨L, hL⟩ : ∃ L, w.heap.size = L := ⟨_, rfl⟩
  rw [hL] at XS ⊢
  generalize w.alloc (.cells [.slice A n ca, .slice F m cf].toArray 25) = w1 at *
  have XS1 := Lib.hid XS; have B1 := Lib.hid b1
  clear XS b1 hL
  obtain ⟨c0, c1⟩ := box2 XS1.out
  go_wp2_with fail
  refine (SM.out _).mono ?_
  rintro _ w2 ⟨rfl, b2⟩
  have XS2 := Lib.hid (XS1.out.on b2); have B2 := Lib.hid (below_step B1.out b2)
  clear b2 XS1 B1 c0 c1 SM
  obtain ⟨c0, c1⟩ := box2 XS2.out
  go_wp2_with fail
  refine (C1.out _ B2.out).mono ?_
  rintro _ w3 ⟨p, o, rfl, v1, v2, b3, -, -⟩
  have V1 := Lib.hid v1; have V2 := Lib.hid v2
  obtain ⟨P, cp, rfl, -, -, -⟩ := v1
  obtain ⟨O, co, rfl, -, -, -⟩ := v2
  have XS3 := Lib.hid (XS2.out.on b3); have B3 := Lib.hid (below_step B2.out b3)
  clear b3 XS2 B2 c0 c1 C1
  unfold yrV
  simp only [List.length_nil] at V1 V2 ⊢
  go_upto_region 4 with fail
  have XY := Box.new w3 30 [.int .i64 0, .int .i64 0, .int .i64 0, .slice P 0 cp, .slice O 0 co]
  have b4 : Below w3.heap.size w3 (w3.alloc (.cells #[.int .i64 0, .int .i64 0, .int .i64 0, .slice P 0 cp, .slice O 0 co] 30)) := (Below.refl _ _).alloc (Nat.le_refl _) _
  have XS4 := Lib.hid (XS3.out.on b4); have B4 := Lib.hid (below_step B3.out b4); have V14 := Lib.hid (V1.out.on b4); have V24 := Lib.hid (V2.out.on b4)
  obtain ⟨Y, hY⟩ : ∃ Y, w3.heap.size = Y := ⟨_, rfl⟩
  rw [hY] at XY ⊢
  generalize w3.alloc (.cells [.int .i64 0, .int .i64 0, .int .i64 0, .slice P 0 cp, .slice O 0 co].toArray 30) = w4 at *
  have XY4 := Lib.hid XY
  clear XY b4 XS3 B3 V1 V2 hY
  obtain ⟨c0, c1⟩ := box2 XS4.out
  go_wp2_with fail
  refine (C3.out _ B4.out).mono ?_
  rintro _ w5 ⟨F5, cf5, rfl, sf5, b5⟩
  have SF5 := Lib.hid sf5
  have XS5 := Lib.hid (XS4.out.on b5); have B5 := Lib.hid (below_step B4.out b5); have V15 := Lib.hid (V14.out.on b5); have V25 := Lib.hid (V24.out.on b5); have XY5 := Lib.hid (XY4.out.on b5)
  clear b5 sf5 XS4 B4 V14 V24 XY4 c0 c1 C3
  go_wp2_with fail
  refine (C4.out _ _ _ B5.out SF5.out).mono ?_
  rintro _ w6 ⟨rfl, b6⟩
  have XS6 := Lib.hid (XS5.out.on b6); have B6 := Lib.hid (below_step B5.out b6); have V16 := Lib.hid (V15.out.on b6); have V26 := Lib.hid (V25.out.on b6); have XY6 := Lib.hid (XY5.out.on b6)
  clear b6 SF5 XS5 B5 V15 V25 XY5 C4
  obtain ⟨c0, c1⟩ := box2 XS6.out
  go_wp2_with fail
  refine (C2.out _ B6.out).mono ?_
  rintro _ w7 ⟨rfl, b7⟩
  have B7 := Lib.hid (below_step B6.out b7); have V17 := Lib.hid (V16.out.on b7); have V27 := Lib.hid (V26.out.on b7); have XY7 := Lib.hid (XY6.out.on b7)
  clear b7 XS6 B6 V16 V26 XY6 C2 c0 c1
  obtain ⟨z0, z1, z2, z3, z4⟩ := box5 XY7.out
  have CS := Lib.hid (fun w' h => rsame_yes (t := 0) (b := 0) (x := 0) (V17.out.on (w' := w') h) (V27.out.on h) (vsl_nil w') (vsl_nil w'))
  unfold yrV at CS
  cases bb with
  | false =>
    rw [if_neg (by decide)] at HE
    have hE := HE.out
    subst hE
    go_wp2_with fail
    refine (CS.out _ (Below.refl _ _)).mono ?_
    rintro _ w8 ⟨rfl, b8⟩
    have B8 := Lib.hid (below_step B7.out b8)
    clear b8
    go_wp2_with fail
    refine (awake_any _).mono ?_
    rintro _ w9 ⟨rfl, b9⟩
    have B9 := Lib.hid (below_step B8.out b9)
    clear b9
    go_wp2_with fail
    go_ret
    exact ⟨rfl, B9.out⟩
  | true =>
    rw [if_pos rfl] at HE
    have hE := HE.out
    subst hE
    cases y1 with
    | false =>
      go_wp2_with fail
      refine (N1.out _).mono ?_
      rintro _ _ ⟨rfl, rfl⟩
      go_wp2_with fail
      refine (CS.out _ (Below.refl _ _)).mono ?_
      rintro _ w8 ⟨rfl, b8⟩
      have B8 := Lib.hid (below_step B7.out b8)
      clear b8
      go_wp2_with fail
      refine (awake_any _).mono ?_
      rintro _ w9 ⟨rfl, b9⟩
      have B9 := Lib.hid (below_step B8.out b9)
      clear b9
      go_wp2_with fail
      go_ret
      exact ⟨rfl, B9.out⟩
    | true =>
      cases y2 with
      | true => exact absurd ⟨rfl, rfl, rfl⟩ HX.out
      | false =>
        go_wp2_with fail
        refine (N1.out _).mono ?_
        rintro _ _ ⟨rfl, rfl⟩
        go_wp2_with fail
        refine (N2.out _).mono ?_
        rintro _ _ ⟨rfl, rfl⟩
        go_wp2_with fail
        refine (CS.out _ (Below.refl _ _)).mono ?_
        rintro _ w8 ⟨rfl, b8⟩
        have B8 := Lib.hid (below_step B7.out b8)
        clear b8
        go_wp2_with fail
        refine (awake_any _).mono ?_
        rintro _ w9 ⟨rfl, b9⟩
        have B9 := Lib.hid (below_step B8.out b9)
        clear b9
        go_wp2_with fail
        go_ret
        exact ⟨rfl, B9.out⟩

set_option maxHeartbeats 6400000 in
set_option maxRecDepth 100000 in
/-- What is not refused. -/
theorem ldue_yes {A F : Option Addr} {n ca m cf : Nat} {a r : Nat → Int} {l : List PWh.Fund} {w : World} {t b : Int} (hA : SlP w A n a r) (hF : SlF w F m l) (h40 : n ≤ 40 ∧ m ≤ 40) (hR : PWh.Rt a r n l) (ht : Nr t) (hb : Nr b) :
    Calls Try.prog 3 #[.agg #[.slice A n ca, .slice F m cf], .int .i64 t, .int .i64 b] w fun e w' => e = .returned (.bool true) ∧ Below w.heap.size w w' := by
  obtain ⟨T, hT⟩ : ∃ T, PBr.tax a r n t = T := ⟨_, rfl⟩
  obtain ⟨lp, hlp⟩ : ∃ T, PWh.paid l b = T := ⟨_, rfl⟩
  obtain ⟨lo, hlo⟩ : ∃ T, PWh.owed l b = T := ⟨_, rfl⟩
  have C1 : Hid (∀ w', Below w.heap.size w w' → Calls Try.prog 11 #[.agg #[.slice A n ca, .slice F m cf], .int .i64 t, .int .i64 b] w' (YrR t b T lp lo 0 w')) := Lib.hid (fun w' h => by rw [← hT, ← hlp, ← hlo]; exact wdue_yes (hA.on h) (hF.on h) hR ht hb)
  have C2 : Hid (∀ w', Below w.heap.size w w' → Calls Try.prog 14 #[.agg #[.slice A n ca, .slice F m cf]] w' fun e w'' => e = .returned (.bool true) ∧ Below w'.heap.size w' w'') := Lib.hid (fun w' h => wright_any (hA.on h) (hF.on h) ⟨fun _ => hR, fun _ => rfl⟩)
  have C3 : Hid (∀ w', Below w.heap.size w w' → Calls Try.prog 13 #[.agg #[.slice A n ca, .slice F m cf]] w' (SchR A n ca l w')) := Lib.hid (fun w' h => lref_any (hF.on h) h40.2)
  have C4 : Hid (∀ w' F' cf', Below w.heap.size w w' → SlF w' F' l.length l → Calls Try.prog 12 #[.agg #[.slice A n ca, .slice F' l.length cf']] w' fun e w'' => e = .returned (.bool true) ∧ Below w'.heap.size w' w'') := Lib.hid (fun w' F' cf' h hf => rwright_any (hA.on h) hf ⟨fun _ => hR, fun _ => rfl⟩)
  have C5 : Hid (∀ w' F' cf', Below w.heap.size w w' → SlF w' F' l.length l → Calls Try.prog 17 #[.agg #[.slice A n ca, .slice F' l.length cf'], .int .i64 t, .int .i64 b] w' (YrR1 t b T lp lo w')) := Lib.hid (fun w' F' cf' h hf => by rw [← hT, ← hlp, ← hlo]; exact rdue_any (hA.on h) hf hR (by have := ht.2; omega) (by have := hb.1; omega))
  have N1 : Hid (∀ w, Calls Try.prog 15 #[.int .i64 t] w fun e w' => e = .returned (.bool false) ∧ w = w') := Lib.hid (fun w => far_any t w true ⟨fun _ => ht, fun _ => rfl⟩)
  have N2 : Hid (∀ w, Calls Try.prog 15 #[.int .i64 b] w fun e w' => e = .returned (.bool false) ∧ w = w') := Lib.hid (fun w => far_any b w true ⟨fun _ => hb, fun _ => rfl⟩)
  have SM := Lib.hid (fun w => small_yes (A := A) (F := F) (ca := ca) (cf := cf) w h40)
  clear hA hF hR ht hb h40 hT hlp hlo
  go_enter Try.func3, Try.ntmps3
  go_upto_region 1 with fail
  have XS := Box.new w 25 [.slice A n ca, .slice F m cf]
  have b1 : Below w.heap.size w (w.alloc (.cells #[.slice A n ca, .slice F m cf] 25)) := (Below.refl _ _).alloc (Nat.le_refl _) _
  obtain ⟨L, hL⟩ : ∃ L, w.heap.size = L := ⟨_, rfl⟩
  rw [hL] at XS ⊢
  generalize w.alloc (.cells [.slice A n ca, .slice F m cf].toArray 25) = w1 at *
  have XS1 := Lib.hid XS; have B1 := Lib.hid b1
  clear XS b1 hL
  obtain ⟨c0, c1⟩ := box2 XS1.out
  go_wp2_with fail
  refine (SM.out _).mono ?_
  rintro _ w2 ⟨rfl, b2⟩
  have XS2 := Lib.hid (XS1.out.on b2); have B2 := Lib.hid (below_step B1.out b2)
  clear b2 XS1 B1 c0 c1 SM
  obtain ⟨c0, c1⟩ := box2 XS2.out
  go_wp2_with fail
  refine (C1.out _ B2.out).mono ?_
  rintro _ w3 ⟨p, o, rfl, v1, v2, b3, -, -⟩
  have V1 := Lib.hid v1; have V2 := Lib.hid v2
  obtain ⟨P, cp, rfl, -, -, -⟩ := v1
  obtain ⟨O, co, rfl, -, -, -⟩ := v2
  have XS3 := Lib.hid (XS2.out.on b3); have B3 := Lib.hid (below_step B2.out b3)
  clear b3 XS2 B2 c0 c1 C1
  unfold yrV
  go_upto_region 4 with fail
  have XY := Box.new w3 30 [.int .i64 t, .int .i64 b, .int .i64 (T : Int), .slice P lp.length cp, .slice O lo.length co]
  have b4 : Below w3.heap.size w3 (w3.alloc (.cells #[.int .i64 t, .int .i64 b, .int .i64 (T : Int), .slice P lp.length cp, .slice O lo.length co] 30)) := (Below.refl _ _).alloc (Nat.le_refl _) _
  have XS4 := Lib.hid (XS3.out.on b4); have B4 := Lib.hid (below_step B3.out b4); have V14 := Lib.hid (V1.out.on b4); have V24 := Lib.hid (V2.out.on b4)
  obtain ⟨Y, hY⟩ : ∃ Y, w3.heap.size = Y := ⟨_, rfl⟩
  rw [hY] at XY ⊢
  generalize w3.alloc (.cells [.int .i64 t, .int .i64 b, .int .i64 (T : Int), .slice P lp.length cp, .slice O lo.length co].toArray 30) = w4 at *
  have XY4 := Lib.hid XY
  clear XY b4 XS3 B3 V1 V2 hY
  obtain ⟨c0, c1⟩ := box2 XS4.out
  go_wp2_with fail
  refine (C3.out _ B4.out).mono ?_
  rintro _ w5 ⟨F5, cf5, rfl, sf5, b5⟩
  have SF5 := Lib.hid sf5
  have XS5 := Lib.hid (XS4.out.on b5); have B5 := Lib.hid (below_step B4.out b5); have V15 := Lib.hid (V14.out.on b5); have V25 := Lib.hid (V24.out.on b5); have XY5 := Lib.hid (XY4.out.on b5)
  clear b5 sf5 XS4 B4 V14 V24 XY4 c0 c1
  go_wp2_with fail
  refine (C4.out _ _ _ B5.out SF5.out).mono ?_
  rintro _ w6 ⟨rfl, b6⟩
  have XS6 := Lib.hid (XS5.out.on b6); have B6 := Lib.hid (below_step B5.out b6); have V16 := Lib.hid (V15.out.on b6); have V26 := Lib.hid (V25.out.on b6); have XY6 := Lib.hid (XY5.out.on b6)
  clear b6 SF5 XS5 B5 V15 V25 XY5 C4
  obtain ⟨c0, c1⟩ := box2 XS6.out
  go_wp2_with fail
  refine (C2.out _ B6.out).mono ?_
  rintro _ w7 ⟨rfl, b7⟩
  have B7 := Lib.hid (below_step B6.out b7); have V17 := Lib.hid (V16.out.on b7); have V27 := Lib.hid (V26.out.on b7); have XY7 := Lib.hid (XY6.out.on b7)
  have XS7 := Lib.hid (XS6.out.on b7)
  clear b7 XS6 B6 V16 V26 XY6 C2 c0 c1
  go_wp2_with fail
  refine (N1.out _).mono ?_
  rintro _ _ ⟨rfl, rfl⟩
  go_wp2_with fail
  refine (N2.out _).mono ?_
  rintro _ _ ⟨rfl, rfl⟩
  obtain ⟨z0, z1, z2, z3, z4⟩ := box5 XY7.out
  obtain ⟨c0, c1⟩ := box2 XS7.out
  have BD : Below w7.heap.size w7 w7.drew := (Below.refl _ _).drew
  have CR := C3.out w7.drew (below_step B7.out BD)
  have ZZ := keep52 BD ⟨⟨z0, z1, z2, z3, z4⟩, c0, c1⟩
  have HBD := Lib.hid (below_step B7.out BD)
  have HV1 := Lib.hid (V17.out.on BD); have HV2 := Lib.hid (V27.out.on BD)
  have S1 := Lib.hid (fun w' (h : Below w7.drew.heap.size w7.drew w') => HV1.out.on h); have S2 := Lib.hid (fun w' (h : Below w7.drew.heap.size w7.drew w') => HV2.out.on h)
  clear BD z0 z1 z2 z3 z4 c0 c1
  go_wp2_with fail
  go_region_held3 (fun w' => (w'.cell? ⟨Y, 0, none⟩ = some (.int .i64 t) ∧ w'.cell? ⟨Y, 1, none⟩ = some (.int .i64 b) ∧ w'.cell? ⟨Y, 2, none⟩ = some (.int .i64 (T : Int)) ∧ w'.cell? ⟨Y, 3, none⟩ = some (.slice P lp.length cp) ∧ w'.cell? ⟨Y, 4, none⟩ = some (.slice O lo.length co)) ∧ w'.cell? ⟨L, 0, none⟩ = some (.slice A n ca) ∧ w'.cell? ⟨L, 1, none⟩ = some (.slice F m cf))
    (first
      | with_reducible exact ZZ
      | with_reducible exact Z8
      | with_reducible exact Z9
      | with_reducible exact ZA
      | with_reducible exact ZB)
    (first
      | (go_at_call 13; (with_reducible refine CR.mono ?_); rintro _ w8 ⟨F8, cf8, rfl, sf8, b8⟩; have Z8 := keep52 b8 ZZ; have CD := C5.out w8 F8 cf8 (below_step HBD.out b8) sf8)
      | (go_at_call 17; (with_reducible refine CD.mono ?_); rintro _ w9 ⟨p9, o9, rfl, v91, v92, b9, -, -⟩; have Z9 := keep52 b9 Z8; have CS := rsame_yes (t := t) (b := b) (x := (T : Int)) (S1.out _ (below_step b8 b9)) (S2.out _ (below_step b8 b9)) v91 v92)
      | (go_at_call 16; refine CS.mono ?_; rintro _ w10 ⟨rfl, b10⟩; have ZA := keep52 b10 Z9; have CW := awake_any w10)
      | (go_at_call 10; (with_reducible refine CW.mono ?_); rintro _ w11 ⟨rfl, b11⟩; have ZB := keep52 b11 ZA))
  all_goals
    have BZ := Lib.hid (below_step (below_step (below_step (below_step HBD.out b8) b9) b10) b11)
    clear ZZ Z8 Z9 ZA ZB CR CD CS CW b8 b9 b10 b11
    go_wp2_with fail
    go_ret
    exact ⟨rfl, BZ.out⟩

theorem ldue_walk (A F : Option Addr) (n ca m cf : Nat) (a r : Nat → Int) (l : List PWh.Fund) (t b : Int) (w : World) (hA : SlP w A n a r) (hF : SlF w F m l) (_ : (Lit.int .i64 t).wf = true) (_ : (Lit.int .i64 b).wf = true) :
    Calls Try.prog 3 #[.agg #[.slice A n ca, .slice F m cf], .int .i64 t, .int .i64 b] w fun e w' => e = .returned (.bool true) ∧ Below w.heap.size w w' := by
  by_cases h40 : n ≤ 40 ∧ m ≤ 40
  · by_cases hx : PWh.Rt a r n l ∧ Nr t ∧ Nr b
    · exact ldue_yes hA hF h40 hx.1 hx.2.1 hx.2.2
    · exact ldue_no hA hF h40 hx
  · have SM := Lib.hid (fun w => small_no (A := A) (F := F) (ca := ca) (cf := cf) w h40)
    clear hA hF h40
    go_enter Try.func3, Try.ntmps3
    go_wp2_with fail
    refine (SM.out _).mono ?_
    rintro _ w2 ⟨rfl, b2⟩
    have B2 := Lib.hid (below_step ((Below.refl w.heap.size w).alloc (Nat.le_refl _) _) b2)
    clear b2
    go_wp2_with fail
    refine (awake_any _).mono ?_
    rintro _ w3 ⟨rfl, b3⟩
    have B3 := Lib.hid (below_step B2.out b3)
    clear b3
    go_wp2_with fail
    go_ret
    exact ⟨rfl, B3.out⟩
end Go.Proofs.Ytpfpcnfodjmgcaa
