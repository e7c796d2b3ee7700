/-
  WithholdNone: where nothing comes nothing is withheld; a step that is taken off again ends with nothing.
-/
import Derived.Test.YtpfpcnfodjmgcaaLaw14YearG
import Derived.Test.YtpfpcnfodjmgcaaStepAppend2G
import Derived.Test.YtpfpcnfodjmgcaaLaw14StepKitG
namespace Go.Proofs.Ytpfpcnfodjmgcaa
open Go.RowKit

/-- A step, all four lists. -/
def StpF (m : Nat) (T B : Int) (X : Nat) (t b : Int) (Z : Int) (lp lo lq lr : List Int) (w : World) (e : Ending) (w' : World) : Prop := ∃ P5 c5 O5 d5 P6 c6 O6 d6, e = .returned (.tuple #[.agg #[.int .i64 T, .int .i64 B, .int .i64 (X : Int), .slice P5 m c5, .slice O5 m d5], .agg #[.int .i64 t, .int .i64 b, .int .i64 Z, .slice P6 m c6, .slice O6 m d6], .int .i64 0]) ∧
  VSl w' (.slice P5 m c5) lp ∧ VSl w' (.slice O5 m d5) lo ∧ VSl w' (.slice P6 m c6) lq ∧ VSl w' (.slice O6 m d6) lr ∧ Below w.heap.size w w'
theorem none_step {A F P O : Option Addr} {n ca m cf np cp no co k : Nat} {a r : Nat → Int} {l : List PWh.Fund} {w : World} {T B t b T' B' Z : Int} {X X' : Nat} {lp lo : List Int} (hA : SlP w A n a r) (hF : SlF w F m l) (hR : PWh.Rt a r n l) (hI : YrI l B m k np no lp lo) (hp : VSl w (.slice P np cp) lp) (ho : VSl w (.slice O no co) lo)
    (hT : -26388279066624 ≤ T ∧ T ≤ 26388279066624) (hB : -26388279066624 ≤ B ∧ B ≤ 26388279066624) (eT : T + t = T') (eB : B + b = B') (hX : PBr.tax a r n T = X) (hX' : PBr.tax a r n T' = X') (hZ : (X' : Int) - (X : Int) = Z) (hT2 : -26388279066624 ≤ T' ∧ T' ≤ 26388279066624) (hB2 : -26388279066624 ≤ B' ∧ B' ≤ 26388279066624) :
    Calls Try.prog 18 #[.agg #[.slice A n ca, .slice F m cf], .agg #[.int .i64 T, .int .i64 B, .int .i64 (X : Int), .slice P np cp, .slice O no co], .int .i64 t, .int .i64 b] w (StpF m T' B' X' t b Z (PWh.paid l B') (PWh.owed l B') (PWh.less (PWh.paid l B') lp) (PWh.less (PWh.owed l B') lo) w) := by
  subst eT; subst eB; subst hX; subst hX'; subst hZ
  have hm : l.length = m := hF.len
  have hx : (np = 0 ∨ np = m) ∧ (no = 0 ∨ no = m) := by rcases hI with h | h <;> omega
  have mx : PBr.tax a r n T ≤ 1125899906842624 := tax_mid hR.1 (by omega)
  have h1 : PWh.MidL lp := by
    rcases hI with ⟨_, _, _, rfl, _⟩ | ⟨_, _, _, rfl, _⟩
    · intro i hi; simp at hi
    · exact midl_paid hR.2.2 (by omega)
  have h2 : PWh.MidL lo := by
    rcases hI with ⟨_, _, _, _, rfl, _⟩ | ⟨_, _, _, _, rfl⟩
    · intro i hi; simp at hi
    · exact midl_owed hR.2.2 (by omega)
  have hn : Near6 T B t b := by unfold Near6 Nr; omega
  refine (wstep_yes hA hF hR hn hx hp ho (by unfold PWh.Mid; omega) h1 h2).mono ?_
  rintro e w' ⟨p, o, p', o', rfl, v1, v2, v3, v4, hb, f1, f2, f3, f4⟩
  have V1 := v1; have V2 := v2; have V3 := v3; have V4 := v4
  obtain ⟨P5, c5, rfl, -, -, -⟩ := v1
  obtain ⟨O5, d5, rfl, -, -, -⟩ := v2
  obtain ⟨P6, c6, rfl, -, -, -⟩ := v3
  obtain ⟨O6, d6, rfl, -, -, -⟩ := v4
  rw [PWh.paid_len, hm] at V1
  rw [PWh.owed_len, hm] at V2
  rw [PWh.less_len, PWh.paid_len, hm] at V3
  rw [PWh.less_len, PWh.owed_len, hm] at V4
  refine ⟨P5, c5, O5, d5, P6, c6, O6, d6, ?_, V1, V2, V3, V4, hb⟩
  rw [PWh.less_len, PWh.less_len, PWh.paid_len, PWh.owed_len, hm]
  rfl
theorem owed_zero {l : List PWh.Fund} (h : PWh.OkTo l l.length) (i : Nat) : (PWh.owed l 0).getD i 0 = 0 := by
  by_cases hi : i < l.length
  · rw [PWh.owed_at hi, PWh.part_low (Int.le_refl 0) (h i hi hi).2.2]; rfl
  · have : (PWh.owed l 0).length ≤ i := by rw [PWh.owed_len]; omega
    simp [List.getD, List.getElem?_eq_none this]
theorem less_self (l : List Int) : PWh.less l l = List.replicate l.length 0 := PWh.eq_of_getD (by rw [PWh.less_len, List.length_replicate]) (fun i hi => by
  rw [PWh.less_len] at hi
  rw [PWh.less_at hi]; simp [List.getD, hi])
theorem zeros_of {l : List Int} {m : Nat} (hl : l.length = m) (h : ∀ i, l.getD i 0 = 0) : l = List.replicate m 0 := PWh.eq_of_getD (by rw [hl, List.length_replicate]) (fun i hi => by
  rw [h i]; rw [hl] at hi; simp [List.getD, hi])

/-- Succeeds where the operation's world is that one, letter for letter. -/
theorem at_w (w : World) {c : Prop} [Decidable c] {P : Program} {o : Oper} {a : Act} {K : Act → World → Prop} {Q : Exit → Act → World → Prop} {E : Prop} (h : if c then Oper.wp P o a w K Q else E) : if c then Oper.wp P o a w K Q else E := h
/-- A row of the call's own. -/
structure One (w : World) (base : Nat) (u : Value) (n : Nat) (xs : List Int) : Prop where
  le : base ≤ w.heap.size
  own : w.ownsRow base 3 1 u n (cellsOfInts xs)
/-- Two rows of the call's own, apart. -/
structure Two (w : World) (base : Nat) (u v : Value) (n k : Nat) (xs ys : List Int) : Prop where
  le : base ≤ w.heap.size
  own : w.ownsRow base 3 1 u n (cellsOfInts xs)
  own' : w.ownsRow base 3 1 v k (cellsOfInts ys)
  ap : Ap u v
theorem Two.symm {w : World} {base : Nat} {u v : Value} {n k : Nat} {xs ys : List Int} (h : Two w base u v n k xs ys) : Two w base v u k n ys xs := ⟨h.le, h.own', h.own, h.ap.symm⟩
theorem own_lit0 {w : World} {base : Nat} (hb : base ≤ w.heap.size) : (w.alloc (.cells #[] 3)).ownsRow base 3 1 (.slice (some ⟨w.heap.size, 0, none⟩) 0 0) 0 (cellsOfInts []) :=
  World.ownsRow_lit (base := base) (e := 3) (size := 1) w #[] 0 hb (by unfold maxLen; omega) (by simp)
theorem One.lit {w : World} {base : Nat} {u : Value} {n : Nat} {xs : List Int} (h : One w base u n xs) : Two (w.alloc (.cells #[] 3)) base u (.slice (some ⟨w.heap.size, 0, none⟩) 0 0) n 0 xs [] :=
  ⟨by have := h.le; simp; omega, own_below h.own ((Below.refl _ _).alloc (Nat.le_refl _) _), own_lit0 h.le, fun k hk hv => by
    have := (h.own.lt k hk).2
    have hv : some w.heap.size = some k := hv
    injection hv with hv
    omega⟩
theorem step_one (w : World) {ops : Array Oper} {o : Oper} {a : Act} {K : Act → World → Prop} {Q : Exit → Act → World → Prop} {E : Prop} (hgd : o.guard = none) (s x : Operand)
    (ho : o.op = .call { callee := .builtin .append, args := #[s, x], argTypes := #[28, 28] })
    (base : Nat) (v : Value) (n N : Nat) (xs : List Int) (hs : a.eval s = v) (h1 : One w base v n xs)
    (A : Option Addr) (m c : Nat) (l : List Int) (hx : a.eval x = .slice A m c) (hc : A = none → c = 0) (hsl : Sl w A m l) (hn : N ≤ 1000) (hN : n + m = N)
    (h : ∀ P' c' w', One w' base (.slice P' N c') N (xs ++ l) → Below base w w' → K (a.put o.dst (.slice P' N c')) w') :
    if Region.wanted o (yielded ops a.tmps) = true then Oper.wp Try.prog o a w K Q else E := by
  subst hN
  refine step_append_sl w hgd s x ho base v n xs hs h1.own A m c l hx hc hsl hn h1.le (fun v' w' ho' hb _ _ => ?_)
  obtain ⟨P', c', rfl⟩ := own_shape ho'
  exact h P' c' w' ⟨Nat.le_trans h1.le hb.size, ho'⟩ hb
theorem step_left (w : World) {ops : Array Oper} {o : Oper} {a : Act} {K : Act → World → Prop} {Q : Exit → Act → World → Prop} {E : Prop} (hgd : o.guard = none) (s x : Operand)
    (ho : o.op = .call { callee := .builtin .append, args := #[s, x], argTypes := #[28, 28] })
    (base : Nat) (v u : Value) (n N k : Nat) (xs ys : List Int) (hs : a.eval s = v) (h1 : Two w base v u n k xs ys)
    (A : Option Addr) (m c : Nat) (l : List Int) (hx : a.eval x = .slice A m c) (hc : A = none → c = 0) (hsl : Sl w A m l) (hn : N ≤ 1000) (hN : n + m = N)
    (h : ∀ P' c' w', Two w' base (.slice P' N c') u N k (xs ++ l) ys → Below base w w' → K (a.put o.dst (.slice P' N c')) w') :
    if Region.wanted o (yielded ops a.tmps) = true then Oper.wp Try.prog o a w K Q else E := by
  subst hN
  refine step_append_sl w hgd s x ho base v n xs hs h1.own A m c l hx hc hsl hn h1.le (fun v' w' ho' hb hk _ => ?_)
  obtain ⟨P', c', rfl⟩ := own_shape ho'
  obtain ⟨k1, k2⟩ := hk u k ys h1.own' h1.ap.symm
  exact h P' c' w' ⟨Nat.le_trans h1.le hb.size, ho', k1, k2.symm⟩ hb
theorem keep22B {B : Nat} {w w' : World} {E Y i j i' j' : Nat} {u v u' v' : Value} (hb : Below B w w') (h1 : E < B) (h2 : Y < B) (h : (w.cell? ⟨E, i, none⟩ = some u ∧ w.cell? ⟨E, j, none⟩ = some v) ∧ w.cell? ⟨Y, i', none⟩ = some u' ∧ w.cell? ⟨Y, j', none⟩ = some v') :
    (w'.cell? ⟨E, i, none⟩ = some u ∧ w'.cell? ⟨E, j, none⟩ = some v) ∧ w'.cell? ⟨Y, i', none⟩ = some u' ∧ w'.cell? ⟨Y, j', none⟩ = some v' :=
  ⟨⟨(hb.cell (p := ⟨E, i, none⟩) h1).trans h.1.1, (hb.cell (p := ⟨E, j, none⟩) h1).trans h.1.2⟩, (hb.cell (p := ⟨Y, i', none⟩) h2).trans h.2.1, (hb.cell (p := ⟨Y, j', none⟩) h2).trans h.2.2⟩
theorem keep22Bz {B : Nat} {w w' : World} {o : Obj} {E Y i j i' j' : Nat} {u v u' v' : Value} (hb : Below B (w.alloc o) w') (h1 : E < B) (h2 : Y < B) (h : (w.cell? ⟨E, i, none⟩ = some u ∧ w.cell? ⟨E, j, none⟩ = some v) ∧ w.cell? ⟨Y, i', none⟩ = some u' ∧ w.cell? ⟨Y, j', none⟩ = some v') :
    (w'.cell? ⟨E, i, none⟩ = some u ∧ w'.cell? ⟨E, j, none⟩ = some v) ∧ w'.cell? ⟨Y, i', none⟩ = some u' ∧ w'.cell? ⟨Y, j', none⟩ = some v' := keep22B hb h1 h2 (ka22 h)
theorem below_trans' {B : Nat} {w0 w w' : World} (h : Below B w0 w) (hb : Below B w w') : Below B w0 w' := h.trans hb
theorem below_transz {B : Nat} {w0 w w' : World} {o : Obj} (h : Below B w0 w) (hs : B ≤ w.heap.size) (hb : Below B (w.alloc o) w') : Below B w0 w' := (h.alloc hs o).trans hb
theorem zeros_get (m i : Nat) : (List.replicate m (0 : Int)).getD i 0 = 0 := by
  by_cases h : i < m
  · simp [List.getD, h]
  · simp [List.getD, List.getElem?_eq_none (show (List.replicate m (0 : Int)).length ≤ i by simp; omega)]
theorem app_zero {l k : List Int} (h : ∀ i, l.getD i 0 = 0) (h2 : ∀ i, k.getD i 0 = 0) (i : Nat) : (l ++ k).getD i 0 = 0 := by
  by_cases e : i < l.length
  · have := h i; simpa [List.getD, List.getElem?_append_left e] using this
  · have := h2 (i - l.length); simpa [List.getD, List.getElem?_append_right (Nat.le_of_not_lt e)] using this
theorem in64_zero {l : List Int} (h : ∀ i, l.getD i 0 = 0) : In64 l := fun i _ => by rw [h i]; omega

theorem below_new (w : World) : Below w.heap.size w (w.alloc (.cells #[] 3)) := (Below.refl _ _).alloc (Nat.le_refl _) _
theorem Two.right {w : World} {base N : Nat} {P : Option Addr} {c n : Nat} {v : Value} {ys k : List Int} (h : Two w base (.slice P N c) v N n ([] ++ k ++ k) ys) (hk : Hid (∀ i, k.getD i 0 = 0)) (hN : N ≤ 1000) : One w base v n ys ∧ (P = none → c = 0) ∧ Sl w P N ([] ++ k ++ k) := by
  obtain ⟨A, cap, e, h1, _, _, hs⟩ := sl_of_own h.own (in64_zero (app_zero (app_zero (fun i => by simp) hk.out) hk.out)) (by omega)
  injection e with e1 e2 e3
  subst e1; subst e3
  exact ⟨⟨h.le, h.own'⟩, h1, hs⟩

set_option maxHeartbeats 3200000 in
set_option maxRecDepth 100000 in
/-- A scheme that is not right. -/
theorem lnone_wrong {A F : Option Addr} {n ca m cf : Nat} {a r : Nat → Int} {l : List PWh.Fund} {w : World} {x y : Int} (hA : SlP w A n a r) (hF : SlF w F m l) (h40 : n ≤ 40 ∧ m ≤ 40) (hR : ¬ PWh.Rt a r n l) :
    Calls Try.prog 7 #[.agg #[.slice A n ca, .slice F m cf], .int .i64 x, .int .i64 y] w fun e w' => e = .returned (.bool true) ∧ Below w.heap.size w w' := by
  have SM := Lib.hid (fun w => small_yes (A := A) (F := F) (ca := ca) (cf := cf) w h40)
  have CS : Hid (∀ w' (t b : Int), Below w.heap.size w w' → Calls Try.prog 18 #[.agg #[.slice A n ca, .slice F m cf], .agg #[.int .i64 0, .int .i64 0, .int .i64 0, .slice none 0 0, .slice none 0 0], .int .i64 t, .int .i64 b] w' (StpR 0 0 0 [] [] 0 0 0 [] [] 1 w')) := Lib.hid (fun w' t b h => wstep_wrong (hA.on h) (hF.on h) hR)
  have CR : Hid (∀ w', Below w.heap.size w w' → Calls Try.prog 14 #[.agg #[.slice A n ca, .slice F m cf]] w' fun e w'' => e = .returned (.bool false) ∧ Below w'.heap.size w' w'') := Lib.hid (fun w' h => wright_any (hA.on h) (hF.on h) ⟨fun k => (by cases k), fun k => absurd k hR⟩)
  clear hA hF hR h40
  go_enter Try.func7, Try.ntmps7
  go_upto_region 1 with fail
  have XS := Box.new w 25 [.slice A n ca, .slice F m cf]
  have b1 : Below w.heap.size w (w.alloc (.cells #[.slice A n ca, .slice F m cf] 25)) := (Below.refl _ _).alloc (Nat.le_refl _) _
  obtain ⟨L, hL⟩ : ∃ L, w.heap.size = L := ⟨_, rfl⟩
  rw [hL] at XS ⊢
  generalize w.alloc (.cells [.slice A n ca, .slice F m cf].toArray 25) = w1 at *
  have XS1 := Lib.hid XS; have B1 := Lib.hid b1; have HL := Lib.hid hL
  clear XS b1 hL
  obtain ⟨c0, c1⟩ := box2 XS1.out
  go_wp2_with fail
  refine (SM.out _).mono ?_
  rintro _ w2 ⟨rfl, b2⟩
  have XS2 := Lib.hid (XS1.out.on b2); have B2 := Lib.hid (below_step B1.out b2)
  clear b2 XS1 B1 c0 c1 SM
  obtain ⟨c0, c1⟩ := box2 XS2.out
  go_wp2_with fail
  refine (CS.out _ _ _ B2.out).mono ?_
  rintro _ w8 ⟨p, o, p', o', rfl, v1, v2, v3, v4, b8, -, -, -, -⟩
  obtain ⟨P5, cp5, rfl, -, -, -⟩ := v1
  obtain ⟨O5, co5, rfl, -, -, -⟩ := v2
  obtain ⟨P6, cp6, rfl, -, -, -⟩ := v3
  obtain ⟨O6, co6, rfl, -, -, -⟩ := v4
  have XS8 := Lib.hid (XS2.out.on b8); have B8 := Lib.hid (below_step B2.out b8)
  clear b8 c0 c1 XS2 B2
  unfold yrV
  go_upto_region 5 with fail
  obtain ⟨w9, hw9, XZ, XM, b9, hs9⟩ := enter2 w8 30 30 [.int .i64 0, .int .i64 0, .int .i64 0, .slice P5 0 cp5, .slice O5 0 co5] [.int .i64 0, .int .i64 0, .int .i64 0, .slice P6 0 cp6, .slice O6 0 co6]
  (try simp only [List.length_nil])
  rw [hw9]
  have XS9 := Lib.hid (XS8.out.on b9); have B9 := Lib.hid (below_step B8.out b9)
  clear hw9 XZ XM b9 hs9 XS8 B8
  obtain ⟨c0, c1⟩ := box2 XS9.out
  go_wp2_with fail
  refine (CR.out _ B9.out).mono ?_
  rintro _ w10 ⟨rfl, b10⟩
  have B10 := Lib.hid (below_step B9.out b10)
  clear b10 c0 c1
  go_wp2_with fail
  refine (awake_any _).mono ?_
  rintro _ w11 ⟨rfl, b11⟩
  have B11 := Lib.hid (below_step B10.out b11)
  clear b11
  go_wp2_with fail
  go_ret
  exact ⟨rfl, B11.out⟩

set_option maxHeartbeats 6400000 in
set_option maxRecDepth 100000 in
/-- A scheme that is right. -/
theorem lnone_yes {A F : Option Addr} {n ca m cf : Nat} {a r : Nat → Int} {l : List PWh.Fund} {w : World} {x y : Int} (hA : SlP w A n a r) (hF : SlF w F m l) (h40 : n ≤ 40 ∧ m ≤ 40) (hR : PWh.Rt a r n l) :
    Calls Try.prog 7 #[.agg #[.slice A n ca, .slice F m cf], .int .i64 x, .int .i64 y] w fun e w' => e = .returned (.bool true) ∧ Below w.heap.size w w' := by
  have SM := Lib.hid (fun w => small_yes (A := A) (F := F) (ca := ca) (cf := cf) w h40)
  have rt := tm_range x; have rb := tm_range y
  obtain ⟨t, ht⟩ : ∃ t, x.tmod 1099511627776 = t := ⟨_, rfl⟩
  obtain ⟨b, hb⟩ : ∃ b, y.tmod 1099511627776 = b := ⟨_, rfl⟩
  rw [ht] at rt; rw [hb] at rb
  obtain ⟨X, hX⟩ : ∃ X, PBr.tax a r n t = X := ⟨_, rfl⟩
  have hm : l.length = m := hF.len
  have hm6 : m ≤ 6 := by have := hR.2.1; omega
  have hX50 : X ≤ 1125899906842624 := by rw [← hX]; exact tax_mid hR.1 (by omega)
  have h00 : PBr.tax a r n 0 = 0 := PBr.tax_low hR.1 (Int.le_refl 0)
  have C1 : Hid (∀ w', Below w.heap.size w w' → Calls Try.prog 18 #[.agg #[.slice A n ca, .slice F m cf], .agg #[.int .i64 0, .int .i64 0, .int .i64 0, .slice none 0 0, .slice none 0 0], .int .i64 t, .int .i64 b] w' (StpF m t b X t b (X : Int) (PWh.paid l b) (PWh.owed l b) (PWh.less (PWh.paid l b) []) (PWh.less (PWh.owed l b) []) w')) :=
    Lib.hid (fun w' h => none_step (k := 0) (hA.on h) (hF.on h) hR (.inl ⟨rfl, rfl, rfl, rfl, rfl, rfl⟩) (vsl_nil _) (vsl_nil _) (by omega) (by omega) (by omega) (by omega) h00 hX (by simp) (by omega) (by omega))
  have C2 : Hid (∀ w' P c O d, Below w.heap.size w w' → VSl w' (.slice P m c) (PWh.paid l b) → VSl w' (.slice O m d) (PWh.owed l b) → Calls Try.prog 18 #[.agg #[.slice A n ca, .slice F m cf], .agg #[.int .i64 t, .int .i64 b, .int .i64 (X : Int), .slice P m c, .slice O m d], .int .i64 0, .int .i64 0] w' (StpF m t b X 0 0 0 (PWh.paid l b) (PWh.owed l b) (List.replicate m 0) (List.replicate m 0) w')) :=
    Lib.hid (fun w' P c O d h v1 v2 => by
      have := none_step (k := 1) (t := 0) (b := 0) (T' := t) (B' := b) (Z := 0) (ca := ca) (cf := cf) (hA.on h) (hF.on h) hR (.inr ⟨by omega, rfl, rfl, rfl, rfl⟩) v1 v2 (by omega) (by omega) (by omega) (by omega) hX hX (by omega) (by omega) (by omega)
      rw [less_self, less_self, PWh.paid_len, PWh.owed_len, hm] at this
      exact this)
  have C3 : Hid (∀ w' P c O d, Below w.heap.size w w' → VSl w' (.slice P m c) (PWh.paid l b) → VSl w' (.slice O m d) (PWh.owed l b) → Calls Try.prog 18 #[.agg #[.slice A n ca, .slice F m cf], .agg #[.int .i64 t, .int .i64 b, .int .i64 (X : Int), .slice P m c, .slice O m d], .int .i64 (-t), .int .i64 (-b)] w' (StpF m 0 0 0 (-t) (-b) (-(X : Int)) (List.replicate m 0) (List.replicate m 0) (PWh.less (PWh.paid l 0) (PWh.paid l b)) (PWh.less (PWh.owed l 0) (PWh.owed l b)) w')) :=
    Lib.hid (fun w' P c O d h v1 v2 => by
      have := none_step (k := 1) (t := -t) (b := -b) (T' := 0) (B' := 0) (X' := 0) (Z := -(X : Int)) (ca := ca) (cf := cf) (hA.on h) (hF.on h) hR (.inr ⟨by omega, rfl, rfl, rfl, rfl⟩) v1 v2 (by omega) (by omega) (by omega) (by omega) hX h00 (by omega) (by omega) (by omega)
      have e1 := zeros_of (l := PWh.paid l 0) (m := m) (by rw [PWh.paid_len, hm]) (paid_zero hR.2.2)
      have e2 := zeros_of (l := PWh.owed l 0) (m := m) (by rw [PWh.owed_len, hm]) (owed_zero hR.2.2)
      rw [e1, e2] at this ⊢
      exact this)
  have wt : IntKind.i64.wrap t = t := by rw [IntKind.wrap_i64]; omega
  have wb : IntKind.i64.wrap b = b := by rw [IntKind.wrap_i64]; omega
  have nt : IntKind.i64.wrap (-t) = -t := by rw [IntKind.wrap_i64]; omega
  have nb : IntKind.i64.wrap (-b) = -b := by rw [IntKind.wrap_i64]; omega
  clear hA hF hR h40 h00 hX50 hX hm rt rb
  go_enter Try.func7, Try.ntmps7
  go_upto_region 1 with fail
  have XS := Box.new w 25 [.slice A n ca, .slice F m cf]
  have b1 : Below w.heap.size w (w.alloc (.cells #[.slice A n ca, .slice F m cf] 25)) := (Below.refl _ _).alloc (Nat.le_refl _) _
  obtain ⟨L, hL⟩ : ∃ L, w.heap.size = L := ⟨_, rfl⟩
  rw [hL] at XS ⊢
  generalize w.alloc (.cells [.slice A n ca, .slice F m cf].toArray 25) = w1 at *
  have XS1 := Lib.hid XS; have B1 := Lib.hid b1; have HL := Lib.hid hL
  clear XS b1 hL
  obtain ⟨c0, c1⟩ := box2 XS1.out
  go_wp2_with fail
  refine (SM.out _).mono ?_
  rintro _ w2 ⟨rfl, b2⟩
  have XS2 := Lib.hid (XS1.out.on b2); have B2 := Lib.hid (below_step B1.out b2)
  clear b2 XS1 B1 c0 c1 SM
  obtain ⟨c0, c1⟩ := box2 XS2.out
  go_wp2_with fail
  refine (C1.out _ B2.out).mono ?_
  rintro _ w3 ⟨P1, c1', O1, d1, P2, c2, O2, d2, rfl, v1, v2, -, -, b3⟩
  have V1 := Lib.hid v1; have V2 := Lib.hid v2
  have XS3 := Lib.hid (XS2.out.on b3); have B3 := Lib.hid (below_step B2.out b3)
  clear b3 c0 c1 XS2 B2 v1 v2 C1
  go_upto_region 5 with fail
  obtain ⟨w4, hw4, XG, XM, b4, hs4⟩ := enter2 w3 30 30 [.int .i64 t, .int .i64 b, .int .i64 (X : Int), .slice P1 m c1', .slice O1 m d1] [.int .i64 t, .int .i64 b, .int .i64 (X : Int), .slice P2 m c2, .slice O2 m d2]
  rw [hw4]
  obtain ⟨G, hG⟩ : ∃ G, w3.heap.size = G := ⟨_, rfl⟩
  rw [hG] at XG XM ⊢
  have XS4 := Lib.hid (XS3.out.on b4); have B4 := Lib.hid (below_step B3.out b4); have XG4 := Lib.hid XG; have V14 := Lib.hid (V1.out.on b4); have V24 := Lib.hid (V2.out.on b4)
  clear hw4 XG XM b4 hs4 hG XS3 B3 V1 V2
  obtain ⟨c0, c1⟩ := box2 XS4.out
  obtain ⟨g0, g1, g2, g3, g4⟩ := box5 XG4.out
  go_wp2_with fail
  refine (C2.out _ _ _ _ _ B4.out V14.out V24.out).mono ?_
  rintro _ w5 ⟨P3, c3, O3, d3, P4, c4, O4, d4, rfl, v1, v2, v3, v4, b5⟩
  have XS5 := Lib.hid (XS4.out.on b5); have B5 := Lib.hid (below_step B4.out b5); have XG5 := Lib.hid (XG4.out.on b5); have V15 := Lib.hid (V14.out.on b5); have V25 := Lib.hid (V24.out.on b5)
  have V3 := Lib.hid v1; have V4 := Lib.hid v2; have Z1 := Lib.hid v3; have Z2 := Lib.hid v4
  clear b5 c0 c1 g0 g1 g2 g3 g4 XS4 B4 XG4 V14 V24 v1 v2 v3 v4 C2
  go_upto_region 8 with fail
  obtain ⟨w6, hw6, XH, XN, b6, hs6⟩ := enter2 w5 30 30 [.int .i64 t, .int .i64 b, .int .i64 (X : Int), .slice P3 m c3, .slice O3 m d3] [.int .i64 0, .int .i64 0, .int .i64 0, .slice P4 m c4, .slice O4 m d4]
  rw [hw6]
  obtain ⟨H, hH⟩ : ∃ H, w5.heap.size = H := ⟨_, rfl⟩
  rw [hH] at XH XN ⊢
  have XS6 := Lib.hid (XS5.out.on b6); have B6 := Lib.hid (below_step B5.out b6); have XG6 := Lib.hid (XG5.out.on b6); have V16 := Lib.hid (V15.out.on b6); have V26 := Lib.hid (V25.out.on b6)
  have XH6 := Lib.hid XH; have XN6 := Lib.hid XN; have V36 := Lib.hid (V3.out.on b6); have V46 := Lib.hid (V4.out.on b6); have Z16 := Lib.hid (Z1.out.on b6); have Z26 := Lib.hid (Z2.out.on b6)
  clear hw6 XH XN b6 hs6 hH XS5 B5 XG5 V15 V25 V3 V4 Z1 Z2
  obtain ⟨c0, c1⟩ := box2 XS6.out
  obtain ⟨g0, g1, g2, g3, g4⟩ := box5 XG6.out
  go_wp2_with fail
  refine (C3.out _ _ _ _ _ B6.out V16.out V26.out).mono ?_
  rintro _ w7 ⟨P5, c5, O5, d5, P6, c6, O6, d6, rfl, v1, v2, -, -, b7⟩
  have B7 := Lib.hid (below_step B6.out b7); have XG7 := Lib.hid (XG6.out.on b7); have V17 := Lib.hid (V16.out.on b7); have V27 := Lib.hid (V26.out.on b7)
  have XH7 := Lib.hid (XH6.out.on b7); have XN7 := Lib.hid (XN6.out.on b7); have V37 := Lib.hid (V36.out.on b7); have V47 := Lib.hid (V46.out.on b7); have Z17 := Lib.hid (Z16.out.on b7); have Z27 := Lib.hid (Z26.out.on b7)
  have Z3 := Lib.hid v1; have Z4 := Lib.hid v2
  clear b7 c0 c1 g0 g1 g2 g3 g4 XS6 B6 XG6 V16 V26 v1 v2 C3 XH6 XN6 V36 V46 Z16 Z26
  go_upto_region 9 with fail
  obtain ⟨w8, hw8, XW, XQ, b8, hs8⟩ := enter2 w7 30 30 [.int .i64 0, .int .i64 0, .int .i64 0, .slice P5 m c5, .slice O5 m d5] [.int .i64 (-t), .int .i64 (-b), .int .i64 (-(X : Int)), .slice P6 m c6, .slice O6 m d6]
  rw [hw8]
  obtain ⟨K, hK⟩ : ∃ K, w7.heap.size = K := ⟨_, rfl⟩
  rw [hK] at XW XQ ⊢
  have B8 := Lib.hid (below_step B7.out b8); have XG8 := Lib.hid (XG7.out.on b8); have V18 := Lib.hid (V17.out.on b8); have V28 := Lib.hid (V27.out.on b8)
  have XH8 := Lib.hid (XH7.out.on b8); have XN8 := Lib.hid (XN7.out.on b8); have V38 := Lib.hid (V37.out.on b8); have V48 := Lib.hid (V47.out.on b8); have Z18 := Lib.hid (Z17.out.on b8); have Z28 := Lib.hid (Z27.out.on b8)
  have Z38 := Lib.hid (Z3.out.on b8); have Z48 := Lib.hid (Z4.out.on b8); have XW8 := Lib.hid XW
  clear hw8 XW XQ b8 hs8 hK B7 XG7 V17 V27 XH7 XN7 V37 V47 Z17 Z27 Z3 Z4 wt wb nt nb ht hb
  obtain ⟨n0, n1, n2, n3, n4⟩ := box5 XN8.out
  obtain ⟨k0, k1, k2, k3, k4⟩ := box5 XW8.out
  go_wp2_with fail
  go_upto_region 11 with fail
  have ZW : (w8.cell? ⟨H + 1, 3, none⟩ = some (.slice P4 m c4) ∧ w8.cell? ⟨H + 1, 4, none⟩ = some (.slice O4 m d4)) ∧ w8.cell? ⟨K, 3, none⟩ = some (.slice P5 m c5) ∧ w8.cell? ⟨K, 4, none⟩ = some (.slice O5 m d5) := ⟨⟨n3, n4⟩, k3, k4⟩
  have bA : ∀ o, Below w8.heap.size w8 ((w8.alloc o).drew) := fun o => ((Below.refl _ _).alloc (Nat.le_refl _) _).drew
  have bB : ∀ o o', Below w8.heap.size w8 (((w8.alloc o).alloc o').drew) := fun o o' => (((Below.refl _ _).alloc (Nat.le_refl _) _).alloc (by simp) _).drew
  have ZZ := keep22 ((Below.refl w8.heap.size w8).drew) ZW
  have ZA := fun o => keep22 (bA o) ZW
  have ZB := fun o o' => keep22 (bB o o') ZW
  clear n0 n1 n2 n3 n4 k0 k1 k2 k3 k4 bA bB
  have hH : H + 1 < w8.heap.size := XN8.out.1
  have hK : K < w8.heap.size := XW8.out.1
  obtain ⟨N2, hN2⟩ : ∃ N, m + m = N := ⟨_, rfl⟩
  obtain ⟨N4, hN4⟩ : ∃ N, N2 + N2 = N := ⟨_, rfl⟩
  have q1 : 0 + m = m := Nat.zero_add m
  have hN4' : N4 ≤ 1000 := by omega
  have hN2' : N2 ≤ 1000 := by omega
  have hm' : m ≤ 1000 := by omega
  go_cut [107, 108, 109] (fun v q i wx => ∃ (R : Option Addr) (cr : Nat) (zl : List Int), v = .slice R N4 cr ∧ q = .int .i64 (N4 : Int) ∧ i = .int .i64 0 ∧ Hid (Sl wx R N4 zl) ∧ Hid (∀ i, zl.getD i 0 = 0) ∧ Hid (Below w8.heap.size w8 wx))
  case first =>
    obtain ⟨P', c', e1, cA1, l1, sA1⟩ := Z18.out
    rw [List.length_replicate] at e1 sA1; injection e1 with e1 e2 e3; subst e1; subst e3
    obtain ⟨P', c', e1, cA2, l2, sA2⟩ := Z28.out
    rw [List.length_replicate] at e1 sA2; injection e1 with e1 e2 e3; subst e1; subst e3
    obtain ⟨P', c', e1, cB1, l3, sB1⟩ := Z38.out
    rw [List.length_replicate] at e1 sB1; injection e1 with e1 e2 e3; subst e1; subst e3
    obtain ⟨P', c', e1, cB2, l4, sB2⟩ := Z48.out
    rw [List.length_replicate] at e1 sB2; injection e1 with e1 e2 e3; subst e1; subst e3
    obtain ⟨ZL, hZL⟩ : ∃ q, List.replicate m (0 : Int) = q := ⟨_, rfl⟩
    rw [hZL] at sA1 sA2 sB1 sB2
    have HZL : Hid (∀ i, ZL.getD i 0 = 0) := Lib.hid (by rw [← hZL]; exact zeros_get m)
    have GA1 := Lib.hid (fun (w' : World) (h : Below w8.heap.size w8 w') => sA1.on h); have GA2 := Lib.hid (fun (w' : World) (h : Below w8.heap.size w8 w') => sA2.on h)
    have GB1 := Lib.hid (fun (w' : World) (h : Below w8.heap.size w8 w') => sB1.on h); have GB2 := Lib.hid (fun (w' : World) (h : Below w8.heap.size w8 w') => sB2.on h)
    have bL1 : Below w8.heap.size w8 ((w8.alloc (.cells #[] 3)).drew) := ((Below.refl _ _).alloc (Nat.le_refl _) _).drew
    have bL2 : Below w8.heap.size w8 (((w8.alloc (.cells #[] 3)).alloc (.cells #[] 3)).drew) := (((Below.refl _ _).alloc (Nat.le_refl _) _).alloc (by simp) _).drew
    have L1 : One ((w8.alloc (.cells #[] 3)).drew) w8.heap.size (.slice (some ⟨w8.heap.size, 0, none⟩) 0 0) 0 [] := ⟨bL1.size, own_lit0 (Nat.le_refl _)⟩
    have L2 : Two (((w8.alloc (.cells #[] 3)).alloc (.cells #[] 3)).drew) w8.heap.size (.slice (some ⟨w8.heap.size, 0, none⟩) 0 0) (.slice (some ⟨w8.heap.size + 1, 0, none⟩) 0 0) 0 0 [] [] := by
      have := One.lit (w := w8.alloc (.cells #[] 3)) (base := w8.heap.size) (u := .slice (some ⟨w8.heap.size, 0, none⟩) 0 0) (n := 0) (xs := []) ⟨by simp, own_lit0 (Nat.le_refl _)⟩
      rw [show (w8.alloc (.cells #[] 3)).heap.size = w8.heap.size + 1 by simp] at this
      exact ⟨bL2.size, this.own, this.own', this.ap⟩
    have L3 := L2.symm
    have F1 := GA1.out _ bL1
    have F2 := GA1.out _ bL2
    have M1 := ZA (.cells #[] 3)
    have M2 := ZB (.cells #[] 3) (.cells #[] 3)
    clear Z18 Z28 Z38 Z48 sA1 sA2 sB1 sB2 l1 l2 l3 l4 hZL e2 XG8 V18 V28 XH8 XN8 V38 V48 XW8 ZW
    go_region_held3 (fun w' => (w'.cell? ⟨H + 1, 3, none⟩ = some (.slice P4 m c4) ∧ w'.cell? ⟨H + 1, 4, none⟩ = some (.slice O4 m d4)) ∧ w'.cell? ⟨K, 3, none⟩ = some (.slice P5 m c5) ∧ w'.cell? ⟨K, 4, none⟩ = some (.slice O5 m d5))
      (first
        | with_reducible exact ZZ
        | with_reducible exact ZA _
        | with_reducible exact ZB _ _
        | with_reducible exact Y7
        | with_reducible exact Y6
        | with_reducible exact Y5
        | with_reducible exact Y4
        | with_reducible exact ka22 Y4
        | with_reducible exact Y3
        | with_reducible exact ka22 Y3)
      (first
        | with_reducible
            refine at_w (w8.alloc (.cells #[] 3)).drew ?_
          refine step_one _ rfl _ _ rfl _ _ _ m _ rfl L1 P4 m c4 ZL rfl cA1 F1 hm' q1 ?_
          intro P7 c7 w3 T3 h3
          have Y3 := keep22B h3 hH hK M1
          have b3 := below_trans' bL1 h3
          have F3 := GA2.out _ b3
          have F3z := F3.on (below_new w3)
        | with_reducible
            refine at_w ((w8.alloc (.cells #[] 3)).alloc (.cells #[] 3)).drew ?_
          refine step_left _ rfl _ _ rfl _ _ _ _ m _ _ _ rfl L2 P4 m c4 ZL rfl cA1 F2 hm' q1 ?_
          intro P7 c7 w3 D3 h3
          have Y3 := keep22B h3 hH hK M2
          have b3 := below_trans' bL2 h3
          have F3 := GA2.out _ b3
        | with_reducible
            refine at_w ((w8.alloc (.cells #[] 3)).alloc (.cells #[] 3)).drew ?_
          refine step_left _ rfl _ _ rfl _ _ _ _ m _ _ _ rfl L3 P4 m c4 ZL rfl cA1 F2 hm' q1 ?_
          intro P7 c7 w3 D3 h3
          have Y3 := keep22B h3 hH hK M2
          have b3 := below_trans' bL2 h3
          have F3 := GA2.out _ b3
        | with_reducible
            refine at_w w3 ?_
          refine step_left _ rfl _ _ rfl _ _ _ _ N2 _ _ _ rfl D3 O4 m d4 ZL rfl cA2 F3 hN2' hN2 ?_
          intro P8 c8 w4 D4 h4
          have Y4 := keep22B h4 hH hK Y3
          have b4 := below_trans' b3 h4
          have F4 := GB1.out _ b4
          have E4 := D4.symm
        | with_reducible
            refine at_w w3 ?_
          refine step_one _ rfl _ _ rfl _ _ _ N2 _ rfl T3 O4 m d4 ZL rfl cA2 F3 hN2' hN2 ?_
          intro P8 c8 w4 T4 h4
          have Y4 := keep22B h4 hH hK Y3
          have b4 := below_trans' b3 h4
          have F4 := GB1.out _ b4
          have F4z := F4.on (below_new w4)
          have E4z := T4.lit.symm
        | with_reducible
            refine at_w (w3.alloc (.cells #[] 3)) ?_
          refine step_left _ rfl _ _ rfl _ _ _ _ N2 _ _ _ rfl T3.lit O4 m d4 ZL rfl cA2 F3z hN2' hN2 ?_
          intro P8 c8 w4 D4 h4
          have Y4 := keep22Bz h4 hH hK Y3
          have b4 := below_transz b3 T3.le h4
          have F4 := GB1.out _ b4
          have E4 := D4.symm
        | with_reducible
            refine at_w w4 ?_
          refine step_left _ rfl _ _ rfl _ _ _ _ m _ _ _ rfl E4 P5 m c5 ZL rfl cB1 F4 hm' q1 ?_
          intro P9 c9 w5 D5 h5
          have Y5 := keep22B h5 hH hK Y4
          have b5 := below_trans' b4 h5
          have F5 := GB2.out _ b5
        | with_reducible
            refine at_w (w4.alloc (.cells #[] 3)) ?_
          refine step_left _ rfl _ _ rfl _ _ _ _ m _ _ _ rfl E4z P5 m c5 ZL rfl cB1 F4z hm' q1 ?_
          intro P9 c9 w5 D5 h5
          have Y5 := keep22Bz h5 hH hK Y4
          have b5 := below_transz b4 T4.le h5
          have F5 := GB2.out _ b5
        | with_reducible
            refine at_w w5 ?_
          refine step_left _ rfl _ _ rfl _ _ _ _ N2 _ _ _ rfl D5 O5 m d5 ZL rfl cB2 F5 hN2' hN2 ?_
          intro P10 c10 w6 D6 h6
          have Y6 := keep22B h6 hH hK Y5
          have b6 := below_trans' b5 h6
          have E6 := D6.right HZL hN2'
          obtain ⟨o6, cC, F6⟩ := E6
        | with_reducible
            refine at_w w6 ?_
          refine step_one _ rfl _ _ rfl _ _ _ N4 _ rfl o6 P10 N2 c10 _ rfl cC F6 hN4' hN4 ?_
          intro P11 c11 w7 T7 h7
          have Y7 := keep22B h7 hH hK Y6
          have b7 := below_trans' b6 h7)
    all_goals
      have HZ : Hid (∀ i, (([] ++ ZL ++ ZL) ++ ([] ++ ZL ++ ZL)).getD i 0 = 0) := Lib.hid (app_zero (app_zero (app_zero (fun i => by simp) HZL.out) HZL.out) (app_zero (app_zero (fun i => by simp) HZL.out) HZL.out))
      obtain ⟨R, cr, eR, _, _, _, sR⟩ := sl_of_own T7.own (in64_zero HZ.out) (by omega)
      injection eR with eR1 eR2 eR3
      subst eR1; subst eR3
      have SR := Lib.hid sR; have BR := Lib.hid b7
      clear ZZ ZA ZB Y3 Y4 Y5 Y6 Y7 L1 L2 L3 F1 F2 M1 M2 F3 F4 F5 F6 D5 D6 o6 T7 sR b3 b4 b5 b6 b7 h3 h4 h5 h6 h7 bL1 bL2
      go_wp2_with fail
      go_meet
      exact ⟨P11, c11, _, rfl, rfl, rfl, SR, HZ, BR⟩
  case rest =>
    obtain ⟨R, cr, zl, rfl, rfl, rfl, SR, HZ, BR⟩ := hcut
    have XG9 := Lib.hid (XG8.out.on BR.out); have XH9 := Lib.hid (XH8.out.on BR.out)
    have B9 := Lib.hid (below_step B8.out BR.out)
    have V19 := Lib.hid (V18.out.on BR.out); have V29 := Lib.hid (V28.out.on BR.out); have V39 := Lib.hid (V38.out.on BR.out); have V49 := Lib.hid (V48.out.on BR.out)
    clear BR XG8 XH8 XN8 XW8 B8 V18 V28 V38 V48 Z18 Z28 Z38 Z48 ZW ZZ ZA ZB hH hK
    go_wp2_with fail
    go_loopw [109] (fun i wr => ∃ k : Nat, k ≤ N4 ∧ i = .int .i64 k ∧ Hid (Below wc.heap.size wc wr)) (fun i _ => N4 - (intOf i).toNat)
    case atStart => exact ⟨0, Nat.zero_le _, rfl, (show Hid _ from Below.refl _ _)⟩
    case round =>
      obtain ⟨k, hk, rfl, HW⟩ := hrel
      by_cases hlt : k < N4
      · obtain ⟨d, off, rfl, hc⟩ := sl_cell (SR.out.on HW.out) hlt
        have q1 := hc k hlt
        rw [HZ.out k] at q1
        have i1 : (0 : Int) ≤ (k : Int) := by omega
        have i2 : (k : Int) < (N4 : Int) := by omega
        clear hc
        go_wp2_with fail
        exact ⟨⟨k + 1, by omega, by congr 1, HW⟩, by simp [intOf]; omega⟩
      · obtain rfl : k = N4 := by omega
        have XG10 := Lib.hid (XG9.out.on HW.out); have XH10 := Lib.hid (XH9.out.on HW.out)
        have B10 := Lib.hid (below_step B9.out HW.out)
        have SA := Lib.hid (rsame_yes (t := t) (b := b) (x := (X : Int)) (V19.out.on HW.out) (V29.out.on HW.out) (V39.out.on HW.out) (V49.out.on HW.out))
        clear HW XG9 XH9 B9 V19 V29 V39 V49
        obtain ⟨g0, g1, g2, g3, g4⟩ := box5 XG10.out
        obtain ⟨h0, h1, h2, h3, h4⟩ := box5 XH10.out
        go_wp2_with fail
        refine SA.out.mono ?_
        rintro _ w9 ⟨rfl, b9⟩
        have B11 := Lib.hid (below_step B10.out b9)
        clear b9 SA
        go_wp2_with fail
        refine (awake_any _).mono ?_
        rintro _ w10 ⟨rfl, b10⟩
        have B12 := Lib.hid (below_step B11.out b10)
        clear b10
        go_wp2_with fail
        go_ret
        exact ⟨rfl, B12.out⟩

set_option maxHeartbeats 3200000 in
set_option maxRecDepth 100000 in
/-- What is too long is awake. -/
theorem lnone_out {A F : Option Addr} {n ca m cf : Nat} {w : World} {x y : Int} (h40 : ¬ (n ≤ 40 ∧ m ≤ 40)) :
    Calls Try.prog 7 #[.agg #[.slice A n ca, .slice F m cf], .int .i64 x, .int .i64 y] w fun e w' => e = .returned (.bool true) ∧ Below w.heap.size w w' := by
  have SM := Lib.hid (fun w => small_no (A := A) (F := F) (ca := ca) (cf := cf) w h40)
  clear h40
  go_enter Try.func7, Try.ntmps7
  go_wp2_with fail
  refine (SM.out _).mono ?_
  rintro _ w2 ⟨rfl, b2⟩
  have B2 := Lib.hid (below_step ((Below.refl w.heap.size w).alloc (Nat.le_refl _) _) b2)
  clear b2
  go_wp2_with fail
  refine (awake_any _).mono ?_
  rintro _ w3 ⟨rfl, b3⟩
  have B3 := Lib.hid (below_step B2.out b3)
  clear b3
  go_wp2_with fail
  go_ret
  exact ⟨rfl, B3.out⟩

theorem lnone_walk (A F : Option Addr) (n ca m cf : Nat) (a r : Nat → Int) (l : List PWh.Fund) (x y : Int) (w : World) (hA : SlP w A n a r) (hF : SlF w F m l) (_ : (Lit.int .i64 x).wf = true) (_ : (Lit.int .i64 y).wf = true) :
    Calls Try.prog 7 #[.agg #[.slice A n ca, .slice F m cf], .int .i64 x, .int .i64 y] w fun e w' => e = .returned (.bool true) ∧ Below w.heap.size w w' := by
  by_cases h : n ≤ 40 ∧ m ≤ 40
  · by_cases hR : PWh.Rt a r n l
    · exact lnone_yes hA hF h hR
    · exact lnone_wrong hA hF h hR
  · exact lnone_out h
end Go.Proofs.Ytpfpcnfodjmgcaa
