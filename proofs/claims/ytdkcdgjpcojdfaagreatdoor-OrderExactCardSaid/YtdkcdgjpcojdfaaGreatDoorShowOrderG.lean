/-
  What the landed show answers: whether a program's expressions are in order.
-/
import Derived.Test.YtdkcdgjpcojdfaaGreatDoorSE
import Derived.Deep.RegionHeld3

set_option linter.unusedVariables false
namespace Go.Proofs.YtdkcdgjpcojdfaaGreatDoor
open Go.RowKit
open PCheck (Xp)

def inOrd (E : List Xp) (RL : List Rw) : Bool := decide (PShow.ord E 0 [] = some (RL.map fun r => r.2.2))
theorem ord_at {E : List Xp} {k : Nat} {x : Xp} (hx : E[k]? = some x) (F : List Int) : PShow.ord (E.drop k) k F = match PShow.formOf x.op with
    | none => none
    | some f => if F.length < f.parts.length then none
      else if F.drop (F.length - f.parts.length) ≠ (PShow.places x).take f.parts.length then none
      else PShow.ord (E.drop (k + 1)) (k + 1) (F.take (F.length - f.parts.length) ++ [(k : Int)]) := by
  obtain ⟨hk, rfl⟩ := List.getElem?_eq_some_iff.1 hx
  rw [List.drop_eq_getElem_cons hk]
  rfl
theorem own_take {w : World} {base e size n m : Nat} {v : Value} {xs : List Value} (h : w.ownsRow base e size v n xs) (hm : m ≤ n) : ∃ A c, v = .slice A n c ∧ n ≤ c ∧ (A = none → n = 0 ∧ c = 0) ∧ (∀ a, A = some a → ∃ g, a = ⟨g, 0, none⟩) ∧ w.ownsRow base e size (.slice A m c) m (xs.take (m * size)) := by
  obtain ⟨h1, h2⟩ := h
  rcases h2 with ⟨rfl, rfl⟩ | ⟨g, c, cur, rfl, hg, hh, h3, h4, h5, h6⟩
  · obtain rfl : m = 0 := by omega
    exact ⟨none, 0, rfl, Nat.le_refl _, fun _ => ⟨rfl, rfl⟩, (fun a e => by cases e), by rw [Nat.zero_mul, List.take_zero]; simp, .inl ⟨rfl, rfl⟩⟩
  · have hle : m * size ≤ n * size := Nat.mul_le_mul_right _ hm
    refine ⟨_, c, rfl, h3, (fun e => by cases e), (fun a e => by cases e; exact ⟨g, rfl⟩), by rw [List.length_take, h1, Nat.min_eq_left hle], .inr ⟨g, c, cur, rfl, hg, hh, by omega, h4, h5, ?_⟩⟩
    rw [← h6, List.take_take, Nat.min_eq_left hle]
def SlI (w : World) (a : Option Addr) (m : Nat) (l : List Int) : Prop := l.length = m ∧ (m = 0 ∨ ∃ b off, a = some ⟨b, off, none⟩ ∧ ∀ i, i < m → w.cell? ⟨b, off + i, none⟩ = some (.int .i64 (l.getD i 0)))
theorem keq_ints {w : World} {a1 a2 : Option Addr} {m c1 c2 : Nat} {l1 l2 : List Int} (h1 : SlI w a1 m l1) (h2 : SlI w a2 m l2) (hm : m ≤ 1000000) :
    Calls Tryz.prog 86 #[.slice a1 m c1, .slice a2 m c2] w (BoolAns (decide (l1 = l2)) w) := by
  obtain ⟨e1, h1⟩ := h1
  obtain ⟨e2, h2⟩ := h2
  by_cases h0 : m = 0
  · subst h0
    refine (Tryz.slices_Equal_int_empty a1 a2 c1 0 c2 w (by omega)).mono ?_
    rintro e w' ⟨rfl, rfl⟩
    obtain rfl := List.eq_nil_of_length_eq_zero e1
    obtain rfl := List.eq_nil_of_length_eq_zero e2
    exact ⟨rfl, Below.refl _ _⟩
  · obtain ⟨b1, o1, rfl, d1⟩ := h1.resolve_left h0
    obtain ⟨b2, o2, rfl, d2⟩ := h2.resolve_left h0
    refine (Tryz.slices_Equal_int b1 o1 m c1 b2 o2 m c2 l1 l2 w (by omega) (by omega) (by omega) (by omega) (fun j hj => d1 j (by omega)) (fun j hj => d2 j (by omega))).mono ?_
    rintro e w' ⟨rfl, q, rfl⟩
    refine ⟨?_, ⟨rfl, rfl, rfl, Nat.le_refl _, fun _ _ => rfl⟩⟩
    rw [List.take_of_length_le (by omega), List.take_of_length_le (by omega)]
    congr 2
    by_cases h : l1 = l2
    · subst h; simp
    · rw [decide_eq_false h, beq_eq_false_iff_ne.2 h]
set_option maxHeartbeats 12800000 in
set_option maxRecDepth 100000 in
theorem kinOrder_any {w : World} {n c rn rc : Nat} {A RA : Option Addr} {E : List Xp} {RL : List Rw} (hR : SlX rlR w RA rn RL) (hE : SlX xpR w A n E) (hn9 : n ≤ 990) (hrn : rn ≤ 1000000) :
    Calls Tryz.prog 56 #[.agg #[.slice RA rn rc, .slice A n c]] w (BoolAns (inOrd E RL) w) := by
  obtain ⟨Q, hQ⟩ : ∃ Q, BoolAns (inOrd E RL) w = Q := ⟨_, rfl⟩
  rw [hQ]
  obtain ⟨O, hO⟩ : ∃ O, PShow.ord E 0 [] = O := ⟨_, rfl⟩
  obtain ⟨LR, hLR⟩ : ∃ LR, (RL.map fun r => r.2.2) = LR := ⟨_, rfl⟩
  have FIN : Hid (∀ (b : Bool) (w' : World), decide (O = some LR) = b → Below w.heap.size w w' → Q (.returned (.bool b)) w') := Lib.hid (fun b w' e a => by rw [← hQ]; exact ⟨by rw [← e, ← hO, ← hLR]; rfl, a⟩)
  have hEn : E.length = n := hE.1
  obtain ⟨w1, hw1, XB, b1⟩ : ∃ w1, w.alloc (.cells #[.slice RA rn rc, .slice A n c] 32) = w1 ∧ Box w1 w.heap.size [.slice RA rn rc, .slice A n c] ∧ Below w.heap.size w w1 := ⟨_, rfl, Box.new _ _ [.slice RA rn rc, .slice A n c], (Below.refl _ _).alloc (Nat.le_refl _) _⟩
  have HR := Lib.hid (hR.on b1); have HE := Lib.hid (hE.on b1); have HEN := Lib.hid hEn; have HXB := Lib.hid XB; have B1 := Lib.hid b1; have HW1 := Lib.hid hw1; have HO := Lib.hid hO; have HLR := Lib.hid hLR
  obtain ⟨x0, x1⟩ := px2 XB
  have hsx := XB.1
  clear hR hE hEn XB b1 hw1 hO hLR hQ
  go_enter Tryz.func56, Tryz.ntmps56
  go_upto_region 1 with fail
  rw [HW1.out]
  go_wp2_with fail
  go_loopw [3, 13] (fun v i wx => ∃ k : Nat, ∃ F : List Int, i = .int .i64 k ∧ k ≤ n ∧ Hid (wx.ownsRow w1.heap.size 3 1 v F.length (cellsOfInts F)) ∧ Hid ((∀ p ∈ F, 0 ≤ p ∧ p < (k : Int)) ∧ F.length ≤ k) ∧ Hid (PShow.ord (E.drop k) k F = O) ∧ Hid (Below w1.heap.size w1 wx)) (fun _ i _ => n - (intOf i).toNat)
  case atStart => exact ⟨0, [], rfl, Nat.zero_le _, Lib.hid (World.ownsRow_nil _ _ _ _), Lib.hid ⟨fun p hp => (by cases hp), Nat.le_refl _⟩, Lib.hid (by rw [List.drop_zero]; exact HO.out), Lib.hid (Below.refl _ _)⟩
  case round =>
    obtain ⟨k, F, rfl, hk, I1, I2, I3, I4⟩ := hrel
    clear x0 x1 hsx
    by_cases hkn : k < n
    · have hkE : k < E.length := by rw [HEN.out]; exact hkn
      obtain ⟨x, hxk⟩ : ∃ x, E[k] = x := ⟨_, rfl⟩
      have hx : E[k]? = some x := by rw [List.getElem?_eq_getElem hkE, hxk]
      have hst := ord_at hx F
      rw [I3.out] at hst
      obtain ⟨ab, ao, rfl, cE⟩ := (HE.out.on I4.out).at hkn
      have cx := cE k hkE
      rw [hxk] at cx
      obtain ⟨op, nm, vl, ya, yb, yc⟩ := x
      have l0 : wr.cell? ⟨ab, ao + k * 6, none⟩ = some (.string ⟨op.toArray⟩) := cx 0 _ rfl
      have l1 : wr.cell? ⟨ab, ao + k * 6 + 1, none⟩ = some (.string ⟨nm.toArray⟩) := cx 1 _ rfl
      have l2 : wr.cell? ⟨ab, ao + k * 6 + 2, none⟩ = some (.int .i64 vl) := cx 2 _ rfl
      have l3 : wr.cell? ⟨ab, ao + k * 6 + 3, none⟩ = some (.int .i64 ya) := cx 3 _ rfl
      have l4 : wr.cell? ⟨ab, ao + k * 6 + 4, none⟩ = some (.int .i64 yb) := cx 4 _ rfl
      have l5 : wr.cell? ⟨ab, ao + k * 6 + 5, none⟩ = some (.int .i64 yc) := cx 5 _ rfl
      obtain ⟨w9, hw9, SB, b9⟩ : ∃ w9, wr.alloc (.cells #[.string { data := #[] }, .string { data := #[] }, .int .i64 0, .int .i64 0, .int .i64 0, .int .i64 0] 58) = w9 ∧ Box w9 wr.heap.size [.string { data := #[] }, .string { data := #[] }, .int .i64 0, .int .i64 0, .int .i64 0, .int .i64 0] ∧ Below wr.heap.size wr w9 := ⟨_, rfl, Box.new _ _ [.string { data := #[] }, .string { data := #[] }, .int .i64 0, .int .i64 0, .int .i64 0, .int .i64 0], (Below.refl _ _).alloc (Nat.le_refl _) _⟩
      obtain ⟨w10, hw10, X10, ON10⟩ := store6 SB (.string ⟨op.toArray⟩) (.string ⟨nm.toArray⟩) (.int .i64 vl) (.int .i64 ya) (.int .i64 yb) (.int .i64 yc)
      have b10 : Below wr.heap.size wr w10 := ON10.below (Nat.le_refl _) b9
      have HB10 := Lib.hid b10
      have HX10 := Lib.hid X10
      obtain ⟨u0, u1, u2, u3, u4, u5⟩ := box6 X10
      have hs10 := X10.1
      obtain ⟨s0, s1, s2, s3, s4, s5⟩ := box6 SB
      obtain ⟨m0, m1, m2, m3, m4, m5⟩ := box6f SB
      have hs9 := SB.1
      have gk : (k : Int) < (n : Int) := by omega
      have HF := Lib.hid (kform_any op w10)
      have HST := Lib.hid hst; have HW10 := Lib.hid hw10
      have HO1 := Lib.hid (own_kept I1.out b10)
      obtain ⟨fl, hfl⟩ : ∃ fl, F.length = fl := ⟨_, rfl⟩
      rw [hfl] at HO1
      have HFL := Lib.hid hfl
      clear hx hst cE cx hxk hkE X10 ON10 b9 b10 SB hw10 I1 I3 hfl
      simp only at HST
      cases hf : PShow.formOf op with
      | none =>
        rw [hf] at HST
        have HFO := Lib.hid hf
        clear hf
        have hd : decide (O = some LR) = false := by rw [HST.out]; rfl
        have HD := Lib.hid hd
        clear hd
        go_upto_region 5 with fail
        rw [HW10.out]
        clear HW10 hw9 s0 s1 s2 s3 s4 s5 m0 m1 m2 m3 m4 m5 hs9
        go_wp2_with (go_at_call 84; refine HF.out.mono ?_)
        intro e11 w11 h11
        obtain ⟨b11, h11⟩ := h11
        rw [HFO.out] at h11
        subst h11
        obtain ⟨w12, hw12, YB, b12⟩ : ∃ w12, w11.alloc (.cells #[.int .i64 0, .slice none 0 0, .string { data := #[] }] 142) = w12 ∧ Box w12 w11.heap.size [.int .i64 0, .slice none 0 0, .string { data := #[] }] ∧ Below w11.heap.size w11 w12 := ⟨_, rfl, Box.new _ _ [.int .i64 0, .slice none 0 0, .string { data := #[] }], (Below.refl _ _).alloc (Nat.le_refl _) _⟩
        obtain ⟨w13, hw13, Y13, ON13⟩ := st3x YB (.int .i64 0) (.slice none 0 0) (.string { data := #[] })
        have b13 : Below w10.heap.size w10 w13 := below_step b11 (ON13.below (Nat.le_refl _) b12)
        obtain ⟨y0, y1, y2⟩ := bx3 YB
        obtain ⟨z0, z1, z2⟩ := bx3f YB
        have hs12 := YB.1
        have BW := Lib.hid (B1.out.trans ((below_step I4.out (below_step HB10.out b13)).mono B1.out.size))
        have HW13 := Lib.hid hw13
        clear hw13 YB Y13 ON13 b11 b12 b13 u0 u1 u2 u3 u4 u5 hs10 HF
        go_upto_region 6 with fail
        rw [HW13.out]
        clear HW13 hw12 y0 y1 y2 z0 z1 z2 hs12
        go_wp2_with fail
        exact FIN.out _ _ HD.out BW.out
      | some f =>
        rw [hf] at HST
        have HFO := Lib.hid hf
        obtain ⟨m, hm⟩ : ∃ m, f.parts.length = m := ⟨_, rfl⟩
        have hm3 : m ≤ 3 := by rw [← hm]; exact PShow.form_few hf
        simp only [HFL.out, hm] at HST
        have HM := Lib.hid hm
        clear hf hm
        obtain ⟨PL, hPL⟩ : ∃ PL : List Int, PShow.places ⟨op, nm, vl, ya, yb, yc⟩ = PL := ⟨_, rfl⟩
        rw [hPL] at HST
        have HPL := Lib.hid hPL
        clear hPL
        obtain ⟨Av, cv, rfl, hcv, hAn, hAs, -⟩ := own_take HO1.out (Nat.zero_le fl)
        go_upto_region 5 with fail
        rw [HW10.out]
        clear HW10 hw9 s0 s1 s2 s3 s4 s5 m0 m1 m2 m3 m4 m5 hs9
        go_wp2_with (go_at_call 84; refine HF.out.mono ?_)
        intro e11 w11 h11
        obtain ⟨b11, h11⟩ := h11
        rw [HFO.out] at h11
        obtain ⟨P, fc, rfl, -, -⟩ := h11
        obtain ⟨fr, hfr⟩ : ∃ fr, f.rank = fr := ⟨_, rfl⟩
        obtain ⟨fx, hfx⟩ : ∃ fx, f.fin = fx := ⟨_, rfl⟩
        simp only [HM.out, hfr, hfx]
        obtain ⟨w12, hw12, YB, b12⟩ : ∃ w12, w11.alloc (.cells #[.int .i64 0, .slice none 0 0, .string { data := #[] }] 142) = w12 ∧ Box w12 w11.heap.size [.int .i64 0, .slice none 0 0, .string { data := #[] }] ∧ Below w11.heap.size w11 w12 := ⟨_, rfl, Box.new _ _ [.int .i64 0, .slice none 0 0, .string { data := #[] }], (Below.refl _ _).alloc (Nat.le_refl _) _⟩
        obtain ⟨w13, hw13, Y13, ON13⟩ := st3x YB (.int .i64 (fr : Nat)) (.slice P m fc) (.string ⟨fx.toArray⟩)
        have b13 : Below w10.heap.size w10 w13 := below_step b11 (ON13.below (Nat.le_refl _) b12)
        obtain ⟨y0, y1, y2⟩ := bx3 YB
        obtain ⟨z0, z1, z2⟩ := bx3f YB
        have hs12 := YB.1
        have HB13 := Lib.hid (below_step I4.out (below_step HB10.out b13))
        have HO13 := Lib.hid (own_kept HO1.out b13)
        have HX13 := Lib.hid (HX10.out.on b13)
        have HY13 := Lib.hid Y13
        obtain ⟨k0, k1, k2⟩ := bx3 Y13
        have hs13 := Y13.1
        have HW13 := Lib.hid hw13
        clear hw13 YB Y13 ON13 b11 b12 b13 u0 u1 u2 u3 u4 u5 hs10 HF hfr hfx HO1 HX10
        go_upto_region 6 with fail
        rw [HW13.out]
        clear HW13 hw12 y0 y1 y2 z0 z1 z2 hs12
        by_cases hfm : fl < m
        · rw [if_pos hfm] at HST
          have HD : Hid (decide (O = some LR) = false) := Lib.hid (by rw [HST.out]; rfl)
          have gfm : (fl : Int) < (m : Int) := by omega
          go_wp2_with fail
          exact FIN.out _ _ HD.out (B1.out.trans (HB13.out.mono B1.out.size))
        · rw [if_neg hfm] at HST
          obtain ⟨r, rfl⟩ : ∃ r, fl = r + m := ⟨fl - m, by omega⟩
          rw [Nat.add_sub_cancel] at HST
          have gfm : ¬ ((r + m : Nat) : Int) < (m : Int) := by omega
          have hr9 : r + m ≤ 990 := by have h1 := I2.out.2; have h2 := HFL.out; omega
          have kpo := kpartsOf_any ⟨op, nm, vl, ya, yb, yc⟩ w13
          simp only [xpC] at kpo
          have HPO := Lib.hid kpo
          obtain ⟨u0, u1, u2, u3, u4, u5⟩ := box6 HX13.out
          have hs10 := HX13.out.1
          have grm : (m : Int) ≤ (r : Int) + (m : Int) := by omega
          clear kpo gfm hfm
          rcases Av with _ | ad
          · obtain ⟨hrm, rfl⟩ := hAn rfl
            obtain rfl : r = 0 := by omega
            obtain rfl : m = 0 := by omega
            clear hrm hcv hr9 grm hAs hm3
            go_wp2_with (go_at_call 85; refine HPO.out.mono ?_)
            intro e14 w14 he14 b14
            subst he14
            obtain ⟨w15, hw15, AB, b15⟩ : ∃ w15, w14.alloc (.cells #[.int .i64 0, .int .i64 0, .int .i64 0] 129) = w15 ∧ Box w15 w14.heap.size [.int .i64 0, .int .i64 0, .int .i64 0] ∧ Below w14.heap.size w14 w15 := ⟨_, rfl, Box.new _ _ [.int .i64 0, .int .i64 0, .int .i64 0], (Below.refl _ _).alloc (Nat.le_refl _) _⟩
            obtain ⟨w16, hw16, A16, ON16⟩ := st3x AB (.int .i64 ya) (.int .i64 yb) (.int .i64 yc)
            have b16 : Below w13.heap.size w13 w16 := below_step b14 (ON16.below (Nat.le_refl _) b15)
            obtain ⟨y0, y1, y2⟩ := bx3 AB
            obtain ⟨z0, z1, z2⟩ := bx3f AB
            have hs15 := AB.1
            have hs16 := A16.1
            have HO16 := Lib.hid (own_kept HO13.out b16)
            have HB16 := Lib.hid (below_step HB13.out b16)
            have Y16 := HY13.out.on b16
            obtain ⟨-, k1, -⟩ := bx3 Y16
            have hs13 := Y16.1
            have S1 : SlI w16.drew none 0 (F.drop 0) := ⟨by rw [List.drop_zero]; exact HFL.out, .inl rfl⟩
            have S2 : SlI w16.drew (some ⟨w14.heap.size, 0, none⟩) 0 (PL.take 0) := ⟨by simp, .inl rfl⟩
            have ceq := keq_ints (c1 := 0) (c2 := 3) S1 S2 (by omega)
            obtain ⟨bq, hbq⟩ : ∃ bq, decide (F.drop 0 = PL.take 0) = bq := ⟨_, rfl⟩
            rw [hbq] at ceq
            have CEQ := ceq
            have HBQ := Lib.hid hbq
            have HW16 := Lib.hid hw16
            clear hw16 AB A16 ON16 b14 b15 b16 u0 u1 u2 u3 u4 u5 hs10 S1 S2 ceq hbq k0 k2 Y16 HPO
            go_upto_region 10 with fail
            rw [HW16.out]
            clear HW16 hw15 y0 y1 y2 z0 z1 z2 hs15
            have Z0 : w16.drew.cell? ⟨w11.heap.size, 1, none⟩ = some (.slice P 0 fc) := k1
            go_region_held3 (fun w' => w'.cell? ⟨w11.heap.size, 1, none⟩ = some (.slice P 0 fc))
              (first
                | with_reducible exact Z0
                | with_reducible exact Z17)
              (first
                | (go_at_call 86; (with_reducible refine CEQ.mono ?_); intro e17 w17 h17; obtain ⟨rfl, b17⟩ := h17; have Z17 : w17.cell? ⟨w11.heap.size, 1, none⟩ = some (.slice P 0 fc) := (b17.cell (p := ⟨w11.heap.size, 1, none⟩) (World.block_lt_of_cell? w16.drew _ Z0)).trans Z0))
            have HO17 : Hid (w17.ownsRow w1.heap.size 3 1 (.slice none 0 0) 0 (cellsOfInts F)) := Lib.hid (own_kept (show w16.drew.ownsRow w1.heap.size 3 1 (.slice none 0 0) 0 (cellsOfInts F) from HO16.out) b17)
            have HB17 := Lib.hid (HB16.out.drew.trans (b17.mono HB16.out.size))
            clear b17 Z0 Z17 CEQ hs13 hs16 k1
            cases bq with
            | false =>
              have hne : F.drop 0 ≠ PL.take 0 := by simpa using HBQ.out
              have hst := HST.out
              rw [if_pos hne] at hst
              have HD : Hid (decide (O = some LR) = false) := Lib.hid (by rw [hst]; rfl)
              clear hne hst
              go_wp2_with fail
              exact FIN.out _ _ HD.out (B1.out.trans (HB17.out.mono B1.out.size))
            | true =>
              have heq : F.drop 0 = PL.take 0 := by simpa using HBQ.out
              have hst := HST.out
              rw [if_neg (by rw [heq]; exact fun h => h rfl)] at hst
              have HS2 := Lib.hid hst.symm
              obtain ⟨A2, c2, hv2, -, -, -, own2⟩ := own_take (m := 0) HO17.out (by omega)
              cases hv2
              have own2' : w17.ownsRow w1.heap.size 3 1 (.slice none 0 0) 0 (cellsOfInts (F.take 0)) := by
                have h := own2
                rw [Nat.mul_one] at h
                unfold cellsOfInts at h ⊢
                rw [List.map_take]; exact h
              have HOT := Lib.hid own2'
              have hF2 : (∀ p ∈ F.take 0 ++ [(k : Int)], 0 ≤ p ∧ p < ((k + 1 : Nat) : Int)) ∧ (F.take 0 ++ [(k : Int)]).length ≤ k + 1 := by
                obtain ⟨j1, j2⟩ := I2.out
                refine ⟨fun p hp => ?_, by rw [List.length_append, List.length_take]; simp only [List.length_cons, List.length_nil]; omega⟩
                rcases List.mem_append.1 hp with hp | hp
                · have := j1 p (List.mem_of_mem_take hp); omega
                · rw [List.mem_singleton.1 hp]; omega
              have HF2 := Lib.hid hF2
              have hln : (F.take 0 ++ [(k : Int)]).length = 0 + 1 := by
                have := HFL.out
                rw [List.length_append, List.length_take, List.length_cons, List.length_nil]; omega
              have HLN := Lib.hid hln
              have hs17 : w1.heap.size ≤ w17.heap.size := HB17.out.size
              have HS17 := Lib.hid hs17
              clear heq hst own2 own2' hF2 hln hs17
              go_wp2_with (at_builtin; refine append_one rfl _ _ rfl w1.heap.size _ 0 (F.take 0) (k : Int) (by rfl) HOT.out (by rfl) (by omega) HS17.out ?_)
              intro v18 w18 own18 b18
              have HO18 := Lib.hid own18
              have HB18 := Lib.hid (HB17.out.trans b18)
              clear own18 b18
              go_wp2_with fail
              exact ⟨⟨k + 1, F.take 0 ++ [(k : Int)], by congr 1, by omega, Lib.hid (by rw [HLN.out]; exact HO18.out), HF2, HS2, HB18⟩, by simp [intOf]; omega⟩
          by_cases hcr : cv = r
          · obtain ⟨g, rfl⟩ := hAs ad rfl
            obtain rfl : cv = r := hcr
            obtain rfl : m = 0 := by omega
            clear hcv
            go_wp2_with (go_at_call 85; refine HPO.out.mono ?_)
            rintro e14 w14 ⟨rfl, b14⟩
            obtain ⟨w15, hw15, AB, b15⟩ : ∃ w15, w14.alloc (.cells #[.int .i64 0, .int .i64 0, .int .i64 0] 129) = w15 ∧ Box w15 w14.heap.size [.int .i64 0, .int .i64 0, .int .i64 0] ∧ Below w14.heap.size w14 w15 := ⟨_, rfl, Box.new _ _ [.int .i64 0, .int .i64 0, .int .i64 0], (Below.refl _ _).alloc (Nat.le_refl _) _⟩
            obtain ⟨w16, hw16, A16, ON16⟩ := st3x AB (.int .i64 ya) (.int .i64 yb) (.int .i64 yc)
            have b16 : Below w13.heap.size w13 w16 := below_step b14 (ON16.below (Nat.le_refl _) b15)
            obtain ⟨y0, y1, y2⟩ := bx3 AB
            obtain ⟨z0, z1, z2⟩ := bx3f AB
            have hs15 := AB.1
            have hs16 := A16.1
            have HO16 := Lib.hid (own_kept HO13.out b16)
            have HB16 := Lib.hid (below_step HB13.out b16)
            have Y16 := HY13.out.on b16
            obtain ⟨-, k1, -⟩ := bx3 Y16
            have hs13 := Y16.1
            have S1 : SlI w16.drew (some ⟨g, 0, none⟩) 0 (F.drop cv) := by
              refine ⟨by rw [List.length_drop, HFL.out]; omega, ?_⟩
              exact .inl rfl
            have S2 : SlI w16.drew (some ⟨w14.heap.size, 0, none⟩) 0 (PL.take 0) := ⟨by simp, .inl rfl⟩
            have ceq := keq_ints (c1 := 0) (c2 := 3) S1 S2 (by omega)
            obtain ⟨bq, hbq⟩ : ∃ bq, decide (F.drop cv = PL.take 0) = bq := ⟨_, rfl⟩
            rw [hbq] at ceq
            have CEQ := ceq
            have HBQ := Lib.hid hbq
            have HW16 := Lib.hid hw16
            clear hw16 AB A16 ON16 b14 b15 b16 u0 u1 u2 u3 u4 u5 hs10 S1 S2 ceq hbq k0 k2 Y16 HPO
            go_upto_region 10 with fail
            rw [HW16.out]
            clear HW16 hw15 y0 y1 y2 z0 z1 z2 hs15
            have gA : (0 : Int) ≤ (cv : Int) := by omega
            have Z0 : w16.drew.cell? ⟨w11.heap.size, 1, none⟩ = some (.slice P 0 fc) := k1
            go_region_held3 (fun w' => w'.cell? ⟨w11.heap.size, 1, none⟩ = some (.slice P 0 fc))
              (first
                | with_reducible exact Z0
                | with_reducible exact Z17)
              (first
                | (go_at_call 86; (with_reducible refine CEQ.mono ?_); intro e17 w17 h17; obtain ⟨rfl, b17⟩ := h17; have Z17 : w17.cell? ⟨w11.heap.size, 1, none⟩ = some (.slice P 0 fc) := (b17.cell (p := ⟨w11.heap.size, 1, none⟩) (World.block_lt_of_cell? w16.drew _ Z0)).trans Z0))
            have HO17 : Hid (w17.ownsRow w1.heap.size 3 1 (.slice (some ⟨g, 0, none⟩) cv cv) cv (cellsOfInts F)) := Lib.hid (own_kept (show w16.drew.ownsRow w1.heap.size 3 1 (.slice (some ⟨g, 0, none⟩) cv cv) cv (cellsOfInts F) from HO16.out) b17)
            have HB17 := Lib.hid (HB16.out.drew.trans (b17.mono HB16.out.size))
            clear b17 Z0 Z17 CEQ hs13 hs16 k1
            cases bq with
            | false =>
              have hne : F.drop cv ≠ PL.take 0 := by simpa using HBQ.out
              have hst := HST.out
              rw [if_pos hne] at hst
              have HD : Hid (decide (O = some LR) = false) := Lib.hid (by rw [hst]; rfl)
              clear hne hst
              go_wp2_with fail
              exact FIN.out _ _ HD.out (B1.out.trans (HB17.out.mono B1.out.size))
            | true =>
              have heq : F.drop cv = PL.take 0 := by simpa using HBQ.out
              have hst := HST.out
              rw [if_neg (by rw [heq]; exact fun h => h rfl)] at hst
              have HS2 := Lib.hid hst.symm
              obtain ⟨A2, c2, hv2, -, -, -, own2⟩ := own_take (m := cv) HO17.out (by omega)
              cases hv2
              have own2' : w17.ownsRow w1.heap.size 3 1 (.slice (some ⟨g, 0, none⟩) cv cv) cv (cellsOfInts (F.take cv)) := by
                have h := own2
                rw [Nat.mul_one] at h
                unfold cellsOfInts at h ⊢
                rw [List.map_take]; exact h
              have HOT := Lib.hid own2'
              have hF2 : (∀ p ∈ F.take cv ++ [(k : Int)], 0 ≤ p ∧ p < ((k + 1 : Nat) : Int)) ∧ (F.take cv ++ [(k : Int)]).length ≤ k + 1 := by
                obtain ⟨j1, j2⟩ := I2.out
                refine ⟨fun p hp => ?_, by rw [List.length_append, List.length_take]; simp only [List.length_cons, List.length_nil]; omega⟩
                rcases List.mem_append.1 hp with hp | hp
                · have := j1 p (List.mem_of_mem_take hp); omega
                · rw [List.mem_singleton.1 hp]; omega
              have HF2 := Lib.hid hF2
              have hln : (F.take cv ++ [(k : Int)]).length = cv + 1 := by
                have := HFL.out
                rw [List.length_append, List.length_take, List.length_cons, List.length_nil]; omega
              have HLN := Lib.hid hln
              have hs17 : w1.heap.size ≤ w17.heap.size := HB17.out.size
              have HS17 := Lib.hid hs17
              clear heq hst own2 own2' hF2 hln hs17
              go_wp2_with (at_builtin; refine append_one rfl _ _ rfl w1.heap.size _ cv (F.take cv) (k : Int) (by rfl) HOT.out (by rfl) (by omega) HS17.out ?_)
              intro v18 w18 own18 b18
              have HO18 := Lib.hid own18
              have HB18 := Lib.hid (HB17.out.trans b18)
              clear own18 b18
              go_wp2_with fail
              exact ⟨⟨k + 1, F.take cv ++ [(k : Int)], by congr 1, by omega, Lib.hid (by rw [HLN.out]; exact HO18.out), HF2, HS2, HB18⟩, by simp [intOf]; omega⟩
          · obtain ⟨g, rfl⟩ := hAs ad rfl
            go_wp2_with (go_at_call 85; refine HPO.out.mono ?_)
            rintro e14 w14 ⟨rfl, b14⟩
            obtain ⟨w15, hw15, AB, b15⟩ : ∃ w15, w14.alloc (.cells #[.int .i64 0, .int .i64 0, .int .i64 0] 129) = w15 ∧ Box w15 w14.heap.size [.int .i64 0, .int .i64 0, .int .i64 0] ∧ Below w14.heap.size w14 w15 := ⟨_, rfl, Box.new _ _ [.int .i64 0, .int .i64 0, .int .i64 0], (Below.refl _ _).alloc (Nat.le_refl _) _⟩
            obtain ⟨w16, hw16, A16, ON16⟩ := st3x AB (.int .i64 ya) (.int .i64 yb) (.int .i64 yc)
            have b16 : Below w13.heap.size w13 w16 := below_step b14 (ON16.below (Nat.le_refl _) b15)
            obtain ⟨y0, y1, y2⟩ := bx3 AB
            obtain ⟨z0, z1, z2⟩ := bx3f AB
            have hs15 := AB.1
            have hs16 := A16.1
            have HO16 := Lib.hid (own_kept HO13.out b16)
            have HB16 := Lib.hid (below_step HB13.out b16)
            have Y16 := HY13.out.on b16
            obtain ⟨-, k1, -⟩ := bx3 Y16
            have hs13 := Y16.1
            have S1 : SlI w16.drew (some ⟨g, r, none⟩) m (F.drop r) := by
              refine ⟨by rw [List.length_drop, HFL.out]; omega, ?_⟩
              refine .inr ⟨g, r, rfl, fun i hi => ?_⟩
              have hc := HO16.out.cells (g := g) rfl (r + i) (.int .i64 (F.getD (r + i) 0)) (cellsOfInts_get F (r + i) (by rw [HFL.out]; omega))
              have e : ((⟨g, 0, none⟩ : Addr).add (r + i)) = ⟨g, r + i, none⟩ := by
                by_cases h0 : r + i = 0
                · rw [h0]; rfl
                · simp only [Addr.add, if_neg h0, Nat.zero_add]
              rw [e] at hc
              rw [show (F.drop r).getD i 0 = F.getD (r + i) 0 by simp [List.getD_eq_getElem?_getD]]
              exact hc
            have S2 : SlI w16.drew (some ⟨w14.heap.size, 0, none⟩) m (PL.take m) := by
              refine ⟨by rw [List.length_take, ← HPL.out]; simp [PShow.places]; omega, .inr ⟨w14.heap.size, 0, rfl, fun i hi => ?_⟩⟩
              rw [Nat.zero_add, show (PL.take m).getD i 0 = PL.getD i 0 by simp [List.getD_eq_getElem?_getD, hi], ← HPL.out]
              match i, (by omega : i < 3) with
              | 0, _ => exact A16.c 0 rfl
              | 1, _ => exact A16.c 1 rfl
              | 2, _ => exact A16.c 2 rfl
            have ceq := keq_ints (c1 := cv - r) (c2 := 3) S1 S2 (by omega)
            obtain ⟨bq, hbq⟩ : ∃ bq, decide (F.drop r = PL.take m) = bq := ⟨_, rfl⟩
            rw [hbq] at ceq
            have CEQ := ceq
            have HBQ := Lib.hid hbq
            have HW16 := Lib.hid hw16
            clear hw16 AB A16 ON16 b14 b15 b16 u0 u1 u2 u3 u4 u5 hs10 S1 S2 ceq hbq k0 k2 Y16 HPO
            go_upto_region 10 with fail
            rw [HW16.out]
            clear HW16 hw15 y0 y1 y2 z0 z1 z2 hs15
            have gA : (0 : Int) ≤ (r : Int) := by omega
            have gB : (r : Int) ≤ (r : Int) + (m : Int) := by omega
            have gC : (r : Int) + (m : Int) ≤ (cv : Int) := by omega
            have gD : (0 : Int) ≤ (m : Int) := by omega
            have gE : (m : Int) ≤ 3 := by omega
            have Z0 : w16.drew.cell? ⟨w11.heap.size, 1, none⟩ = some (.slice P m fc) := k1
            go_region_held3 (fun w' => w'.cell? ⟨w11.heap.size, 1, none⟩ = some (.slice P m fc))
              (first
                | with_reducible exact Z0
                | with_reducible exact Z17)
              (first
                | (go_at_call 86; (with_reducible refine CEQ.mono ?_); intro e17 w17 h17; obtain ⟨rfl, b17⟩ := h17; have Z17 : w17.cell? ⟨w11.heap.size, 1, none⟩ = some (.slice P m fc) := (b17.cell (p := ⟨w11.heap.size, 1, none⟩) (World.block_lt_of_cell? w16.drew _ Z0)).trans Z0))
            have HO17 : Hid (w17.ownsRow w1.heap.size 3 1 (.slice (some ⟨g, 0, none⟩) (r + m) cv) (r + m) (cellsOfInts F)) := Lib.hid (own_kept (show w16.drew.ownsRow w1.heap.size 3 1 (.slice (some ⟨g, 0, none⟩) (r + m) cv) (r + m) (cellsOfInts F) from HO16.out) b17)
            have HB17 := Lib.hid (HB16.out.drew.trans (b17.mono HB16.out.size))
            clear b17 Z0 Z17 CEQ hs13 hs16 k1
            cases bq with
            | false =>
              have hne : F.drop r ≠ PL.take m := by simpa using HBQ.out
              have hst := HST.out
              rw [if_pos hne] at hst
              have HD : Hid (decide (O = some LR) = false) := Lib.hid (by rw [hst]; rfl)
              clear hne hst
              go_wp2_with fail
              exact FIN.out _ _ HD.out (B1.out.trans (HB17.out.mono B1.out.size))
            | true =>
              have heq : F.drop r = PL.take m := by simpa using HBQ.out
              have hst := HST.out
              rw [if_neg (by rw [heq]; exact fun h => h rfl)] at hst
              have HS2 := Lib.hid hst.symm
              obtain ⟨A2, c2, hv2, -, -, -, own2⟩ := own_take (m := r) HO17.out (by omega)
              cases hv2
              have own2' : w17.ownsRow w1.heap.size 3 1 (.slice (some ⟨g, 0, none⟩) r cv) r (cellsOfInts (F.take r)) := by
                have h := own2
                rw [Nat.mul_one] at h
                unfold cellsOfInts at h ⊢
                rw [List.map_take]; exact h
              have HOT := Lib.hid own2'
              have hF2 : (∀ p ∈ F.take r ++ [(k : Int)], 0 ≤ p ∧ p < ((k + 1 : Nat) : Int)) ∧ (F.take r ++ [(k : Int)]).length ≤ k + 1 := by
                obtain ⟨j1, j2⟩ := I2.out
                refine ⟨fun p hp => ?_, by rw [List.length_append, List.length_take]; simp only [List.length_cons, List.length_nil]; omega⟩
                rcases List.mem_append.1 hp with hp | hp
                · have := j1 p (List.mem_of_mem_take hp); omega
                · rw [List.mem_singleton.1 hp]; omega
              have HF2 := Lib.hid hF2
              have hln : (F.take r ++ [(k : Int)]).length = r + 1 := by
                have := HFL.out
                rw [List.length_append, List.length_take, List.length_cons, List.length_nil]; omega
              have HLN := Lib.hid hln
              have hs17 : w1.heap.size ≤ w17.heap.size := HB17.out.size
              have HS17 := Lib.hid hs17
              clear heq hst own2 own2' hF2 hln hs17
              go_wp2_with (at_builtin; refine append_one rfl _ _ rfl w1.heap.size _ r (F.take r) (k : Int) (by rfl) HOT.out (by rfl) (by omega) HS17.out ?_)
              intro v18 w18 own18 b18
              have HO18 := Lib.hid own18
              have HB18 := Lib.hid (HB17.out.trans b18)
              clear own18 b18
              go_wp2_with fail
              exact ⟨⟨k + 1, F.take r ++ [(k : Int)], by congr 1, by omega, Lib.hid (by rw [HLN.out]; exact HO18.out), HF2, HS2, HB18⟩, by simp [intOf]; omega⟩
    · have hek : k = n := by omega
      subst hek
      have hO : O = some F := by rw [← I3.out, List.drop_of_length_le (by rw [HEN.out]; exact Nat.le_refl _)]; rfl
      have h64 : In64 F := by
        intro i hi
        have h := I2.out.1 (F.getD i 0) (by rw [List.getD_eq_getElem?_getD, List.getElem?_eq_getElem hi]; exact List.getElem_mem _)
        omega
      have hFl : F.length ≤ 990 := by have := I2.out.2; omega
      obtain ⟨Av, cv, rfl, -, -, -, sl⟩ := sl_of_own I1.out h64 (by omega)
      have kr := kequal_roots (c1 := rc) (c2 := cv) (HR.out.on I4.out) sl hrn (by omega)
      rw [HLR.out] at kr
      have KR := Lib.hid kr
      obtain ⟨x0, x1⟩ := px2 (HXB.out.on I4.out)
      have hsx := (HXB.out.on I4.out).1
      have HOF := Lib.hid hO
      clear sl kr hO h64 hFl I1
      go_wp2_with (go_at_call 87; refine KR.out.mono ?_)
      intro e2 w2 h2
      obtain ⟨rfl, b2⟩ := h2
      have HD : Hid (decide (O = some LR) = decide (LR = F)) := Lib.hid (by
        rw [HOF.out]
        by_cases h : LR = F
        · subst h; simp
        · rw [decide_eq_false h, decide_eq_false (fun e => h (Option.some.inj e).symm)])
      have B2 := Lib.hid (B1.out.trans ((below_step I4.out b2).mono B1.out.size))
      clear b2 KR
      go_wp2_with fail
      exact FIN.out _ _ HD.out B2.out
end Go.Proofs.YtdkcdgjpcojdfaaGreatDoor
