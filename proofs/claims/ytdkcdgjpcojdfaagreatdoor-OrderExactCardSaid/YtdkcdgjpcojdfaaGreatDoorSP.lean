/-
  What the landed show answers: the pieces of an expression that has parts.
  What the landed show answers: the pieces of any expression.
-/
import Derived.Test.YtdkcdgjpcojdfaaGreatDoorShowPiecesG
import Derived.Deep.RegionHeld3
import Derived.Deep.DeepMust

set_option linter.unusedVariables false
namespace Go.Proofs.YtdkcdgjpcojdfaaGreatDoor
open Go.RowKit
open PCheck (Xp)
open PShow (Pc)

theorem px2 {w : World} {H : Nat} {a b : Value} (h : Box w H [a, b]) : w.cell? ⟨H, 0, none⟩ = some a ∧ w.cell? ⟨H, 1, none⟩ = some b := ⟨h.c 0 rfl, h.c 1 rfl⟩
theorem px2f {w : World} {H : Nat} {a b : Value} (h : Box w H [a, b]) : w.frozen? ⟨H, 0, none⟩ = false ∧ w.frozen? ⟨H, 1, none⟩ = false := ⟨h.f 0 rfl, h.f 1 rfl⟩
theorem own_base {w : World} {B C e size n : Nat} {v : Value} {xs : List Value} (h : w.ownsRow B e size v n xs) (hb : C ≤ B) : w.ownsRow C e size v n xs := by
  obtain ⟨h1, h2⟩ := h
  refine ⟨h1, ?_⟩
  rcases h2 with h2 | ⟨g, cap, cur, hv, hg, r⟩
  · exact .inl h2
  · exact .inr ⟨g, cap, cur, hv, Nat.le_trans hb hg, r⟩
theorem cell_eq {w w' : World} {b o : Nat} (h : w'.heap[b]? = w.heap[b]?) : w'.cell? ⟨b, o, none⟩ = w.cell? ⟨b, o, none⟩ := by
  unfold World.cell?
  simp only [h]
theorem step_append_kept {α : Type} {R : Rec α} {e t : TypeId} {bytes : Nat} (T : RecTy R e t bytes) (w : World) {ops : Array Oper} {o : Oper} {a : Act} {K : Act → World → Prop} {Q : Exit → Act → World → Prop} {E : Prop} (hgd : o.guard = none) (s x : Operand)
    (ho : o.op = .call { callee := .builtin .append, args := #[s, x], argTypes := #[t, t] })
    (base : Nat) (v : Value) (n : Nat) (l : List α) (hs : a.eval s = v) (hown : w.ownsRow base e R.k v n (R.cells l))
    (ad : Addr) (m c : Nat) (xs : List α) (hx : a.eval x = .slice (some ad) m c) (hsl : SlX R w (some ad) m xs) (hn : n + m ≤ 100000) (hbase : base ≤ w.heap.size)
    (h : ∀ v' w', w'.ownsRow base e R.k v' (n + m) (R.cells (l ++ xs)) → Below base w w' → (∀ k, k < w.heap.size → v.ownBlock ≠ some k → w'.heap[k]? = w.heap[k]?) → K (a.put o.dst v') w') :
    if Region.wanted o (yielded ops a.tmps) = true then Oper.wp Tryz.prog o a w K Q else E := by
  have hw : Region.wanted o (yielded ops a.tmps) = true := by simp [Region.wanted, hgd]
  rw [if_pos hw]
  obtain ⟨z, hz, hzs⟩ := T.info
  obtain ⟨i0, hi, hz0, hz1, hz2⟩ := info_parts hz
  obtain ⟨h1, h2⟩ := hsl
  refine wp_append_own w s x t ho base e i0 z R.k bytes T.under hi hz0 hz1 hz2 hzs R.pos v n _ hs hown ad m c (R.cells xs) hx (by rw [R.cells_len, h1]) (fun j u hj => ?_) (R.cells_one' xs) (by unfold maxLen; omega) ?_ hbase (fun v' w' ho' hg _ => h v' w' ?_ ?_ (fun k hk hne => hg.block k hk (fun e => hne e.symm)))
  · obtain ⟨i, hi', q, rfl, hq⟩ := R.cells_at xs j u hj
    rcases h2 with h2 | ⟨b, off, e, hcell⟩
    · omega
    · cases e
      rw [addr_add', ← hcell i hi' q u hq, Nat.add_assoc]
  · have := Nat.mul_le_mul hn T.few; omega
  · rw [R.cells_append]; exact ho'
  · exact (Below.refl _ _).grown hg hbase (fun k hk => (hown.lt k hk).1)
def FormAt (r m : Nat) (S : List (List UInt8 × Nat)) (fx : List UInt8) (w : World) (e : Ending) (w' : World) : Prop :=
  ∃ P c, ∃ ok : Bool, e = .returned (.tuple #[.agg #[.int .i64 (r : Nat), .slice P m c, .string ⟨fx.toArray⟩], .bool ok]) ∧ (∀ a, P = some a → w.heap.size ≤ a.block) ∧ SlX slotR w' P m S ∧ Below w.heap.size w w'
set_option maxHeartbeats 6400000 in
set_option maxRecDepth 100000 in
theorem kpieces_parts {w : World} {A : Option Addr} {n c k m : Nat} {E : List Xp} {x : Xp} {S : List (List UInt8 × Nat)} (hE : SlX xpR w A n E) (hx : E[k]? = some x) (hS : prt x.op = S) (hm : S.length = m) (hm0 : ¬ m = 0) (hp : ∀ p ∈ (PShow.places x).take m, 0 ≤ p ∧ p < (n : Int)) (hs : ∀ s ∈ S, s.1.length ≤ 100000) :
    Calls Tryz.prog 108 #[.slice A n c, .int .i64 (k : Nat)] w (PcAns (PShow.pcs (PShow.rkAt E) S (PShow.places x) ++ [(fnn x.op, -1)]) w) := by
  obtain ⟨Q, hQ⟩ : ∃ Q, PcAns (PShow.pcs (PShow.rkAt E) S (PShow.places x) ++ [(fnn x.op, -1)]) w = Q := ⟨_, rfl⟩
  rw [hQ]
  obtain ⟨hk, hxk⟩ := List.getElem?_eq_some_iff.1 hx
  have hn : E.length = n := hE.1
  obtain ⟨ab, ao, rfl, hc⟩ := hE.at (i := k) (by omega)
  have hcx := hc k hk
  rw [hxk] at hcx
  have kn : k < n := by omega
  have HPO := Lib.hid (fun (wa : World) => kpartsOf_any x wa)
  have hm3 : m ≤ 3 := by have := prt_few x.op; rw [hS] at this; omega
  obtain ⟨rkx, hrk⟩ : ∃ r, PShow.rk x.op = r := ⟨_, rfl⟩
  obtain ⟨fx, hfx⟩ : ∃ r, fnn x.op = r := ⟨_, rfl⟩
  have HF : Hid (∀ wa, Calls Tryz.prog 84 #[.string ⟨x.op.toArray⟩] wa (FormAt rkx m S fx wa)) := Lib.hid (fun wa => by
    have h := kform_un x.op wa
    unfold FormUn at h
    rw [hrk, hfx, hS, hm] at h
    exact h)
  rw [hfx] at hQ
  obtain ⟨op, nm, vl, ya, yb, yc⟩ := x
  simp only [xpC] at HPO HF
  have l0 : w.cell? ⟨ab, ao + k * 6, none⟩ = some (.string ⟨op.toArray⟩) := hcx 0 _ rfl
  have l1 : w.cell? ⟨ab, ao + k * 6 + 1, none⟩ = some (.string ⟨nm.toArray⟩) := hcx 1 _ rfl
  have l2 : w.cell? ⟨ab, ao + k * 6 + 2, none⟩ = some (.int .i64 vl) := hcx 2 _ rfl
  have l3 : w.cell? ⟨ab, ao + k * 6 + 3, none⟩ = some (.int .i64 ya) := hcx 3 _ rfl
  have l4 : w.cell? ⟨ab, ao + k * 6 + 4, none⟩ = some (.int .i64 yb) := hcx 4 _ rfl
  have l5 : w.cell? ⟨ab, ao + k * 6 + 5, none⟩ = some (.int .i64 yc) := hcx 5 _ rfl
  obtain ⟨w1, hw1, RB, b1⟩ : ∃ w1, w.alloc (.cells #[.string { data := #[] }, .string { data := #[] }, .int .i64 0, .int .i64 0, .int .i64 0, .int .i64 0] 58) = w1 ∧ Box w1 w.heap.size [.string { data := #[] }, .string { data := #[] }, .int .i64 0, .int .i64 0, .int .i64 0, .int .i64 0] ∧ Below w.heap.size w w1 := ⟨_, rfl, Box.new _ _ [.string { data := #[] }, .string { data := #[] }, .int .i64 0, .int .i64 0, .int .i64 0, .int .i64 0], (Below.refl _ _).alloc (Nat.le_refl _) _⟩
  obtain ⟨w2, hw2, X2, ON⟩ := store6 RB (.string ⟨op.toArray⟩) (.string ⟨nm.toArray⟩) (.int .i64 vl) (.int .i64 ya) (.int .i64 yb) (.int .i64 yc)
  have B2 : Below w.heap.size w w2 := ON.below (Nat.le_refl _) b1
  have HX2 := Lib.hid X2; have HB2 := Lib.hid B2
  obtain ⟨x0, x1, x2, x3, x4, x5⟩ := box6 X2
  have hsx := X2.1
  obtain ⟨PL, hPL⟩ : ∃ PL : List Int, [ya, yb, yc] = PL := ⟨_, rfl⟩
  have hPx : PShow.places ⟨op, nm, vl, ya, yb, yc⟩ = PL := hPL
  rw [hPx] at hQ hp
  obtain ⟨G, hG⟩ : ∃ G, PShow.rkAt E = G := ⟨_, rfl⟩
  rw [hG] at hQ
  have FIN : Hid (∀ v w', w'.ownsRow w.heap.size 174 2 v (PShow.pcs G S PL ++ [(fx, -1)]).length (pcR.cells (PShow.pcs G S PL ++ [(fx, -1)])) → Below w.heap.size w w' → Q (.returned v) w') := Lib.hid (fun v w' a b => by rw [← hQ]; exact ⟨v, rfl, a, b⟩)
  have HE := Lib.hid (hE.on B2); have HP := Lib.hid hp; have HG := Lib.hid hG; have HPL := Lib.hid hPL
  have r6 := box6f RB
  obtain ⟨r0, r1, r2, r3, r4, r5⟩ := r6
  obtain ⟨q0, q1, q2, q3, q4, q5⟩ := box6 RB
  have hsr := RB.1
  have HW1 := Lib.hid hw1; have HW2 := Lib.hid hw2
  clear hE hx hcx hc hxk hp hQ hrk hfx RB ON b1 X2 B2 hw2 hPx hPL hG
  go_enter Tryz.func108, Tryz.ntmps108
  go_upto_region 2 with fail
  rw [HW2.out]
  clear HW1 HW2 hw1 r0 r1 r2 r3 r4 r5 q0 q1 q2 q3 q4 q5 hsr
  go_wp2_with (go_at_call 84; refine (HF.out _).mono ?_)
  rintro e3 w3 hf3
  obtain ⟨P, fc, ok, rfl, hP, hSl, b3⟩ := hf3
  have C3 := Lib.hid (HB2.out.trans (b3.mono (by have := HB2.out.size; omega)))
  have X3 := HX2.out.on b3
  obtain ⟨w4, hw4, RB, b4⟩ : ∃ w4, w3.alloc (.cells #[.int .i64 0, .slice none 0 0, .string { data := #[] }] 142) = w4 ∧ Box w4 w3.heap.size [.int .i64 0, .slice none 0 0, .string { data := #[] }] ∧ Below w3.heap.size w3 w4 := ⟨_, rfl, Box.new _ _ [.int .i64 0, .slice none 0 0, .string { data := #[] }], (Below.refl _ _).alloc (Nat.le_refl _) _⟩
  obtain ⟨w5, hw5, R5, ON⟩ := st3x RB (.int .i64 (rkx : Nat)) (.slice P m fc) (.string ⟨fx.toArray⟩)
  have b5 : Below w3.heap.size w3 w5 := ON.below (Nat.le_refl _) b4
  have C5 := Lib.hid (C3.out.trans (b5.mono (by have := C3.out.size; omega)))
  have S5 := Lib.hid (hSl.on b5)
  have E5 := Lib.hid ((HE.out.on b3).on b5)
  have R5h := Lib.hid R5
  have HX5 := Lib.hid (X3.on b5)
  obtain ⟨r0, r1, r2⟩ := bx3 RB
  obtain ⟨f0, f1, f2⟩ := bx3f RB
  obtain ⟨q0, q1, q2⟩ := bx3 R5
  have hsr := RB.1
  have hsq := R5.1
  have HW5 := Lib.hid hw5
  clear hw5 RB R5 ON b3 b4 b5 X3 x0 x1 x2 x3 x4 x5 HX2 HB2 hP hsx HE hSl
  go_upto_region 3 with fail
  rw [HW5.out]
  clear HW5 hw4 r0 r1 r2 f0 f1 f2 hsr
  obtain ⟨x0, x1, x2, x3, x4, x5⟩ := box6 HX5.out
  have hsx := HX5.out.1
  have hmz : ((m : Int) == 0) = false := by rw [beq_eq_false_iff_ne]; omega
  go_wp2_with (go_at_call 85; refine (HPO.out _).mono ?_)
  rintro _ w6 ⟨rfl, b6⟩
  obtain ⟨w7, hw7, AB, b7⟩ : ∃ w7, w6.alloc (.cells #[.int .i64 0, .int .i64 0, .int .i64 0] 129) = w7 ∧ Box w7 w6.heap.size [.int .i64 0, .int .i64 0, .int .i64 0] ∧ Below w6.heap.size w6 w7 := ⟨_, rfl, Box.new _ _ [.int .i64 0, .int .i64 0, .int .i64 0], (Below.refl _ _).alloc (Nat.le_refl _) _⟩
  obtain ⟨w8, hw8, A8, ON⟩ := st3x AB (.int .i64 ya) (.int .i64 yb) (.int .i64 yc)
  have b8 : Below w6.heap.size w6 w8 := ON.below (Nat.le_refl _) b7
  have b58 : Below w5.heap.size w5 w8 := below_step b6 b8
  have C8 := Lib.hid (below_step C5.out b58)
  have S8 := Lib.hid (S5.out.on b58)
  have E8 := Lib.hid (E5.out.on b58)
  have R8 := Lib.hid (R5h.out.on b58)
  have HA8 := Lib.hid A8
  have hA8s : w6.heap.size < w8.heap.size := A8.1
  obtain ⟨r0, r1, r2⟩ := bx3 AB
  obtain ⟨f0, f1, f2⟩ := bx3f AB
  have hsr := AB.1
  have HW8 := Lib.hid hw8
  clear hw8 AB ON b6 b7 b8 b58 x0 x1 x2 x3 x4 x5 hsx S5 E5 R5h HX5 C5 C3 q0 q1 q2 hsq
  obtain ⟨q0, q1, q2⟩ := bx3 R8.out
  have hsq := R8.out.1
  go_upto_region 7 with fail
  rw [HW8.out]
  clear HW8 hw7 r0 r1 r2 f0 f1 f2 hsr
  go_wp2_with fail
  have HM := Lib.hid hm; have HN := Lib.hid hn; have HK := Lib.hid hk; have HS0 := Lib.hid hS; have HSL := Lib.hid hs
  clear hm hn hk hS hs
  go_loopw [8, 37] (fun v i wx => ∃ t : Nat, t ≤ m ∧ i = .int .i64 t ∧ Hid (wx.ownsRow w8.heap.size 174 2 v (PShow.pcs G (S.take t) PL).length (pcR.cells (PShow.pcs G (S.take t) PL))) ∧ Hid (Below w8.heap.size w8 wx)) (fun _ i _ => m - (intOf i).toNat)
  case atStart => exact ⟨0, Nat.zero_le _, rfl, Lib.hid (by rw [List.take_zero]; exact ⟨rfl, .inl ⟨rfl, rfl⟩⟩), Lib.hid (Below.refl _ _)⟩
  case round =>
    obtain ⟨t, ht, rfl, I1, I2⟩ := hrel
    by_cases htl : t < m
    · have htS : t < S.length := by rw [HM.out]; exact htl
      obtain ⟨⟨sx, ls⟩, hsx⟩ : ∃ s, S[t] = s := ⟨_, rfl⟩
      have hS1 : S[t]? = some (sx, ls) := by rw [List.getElem?_eq_getElem htS, hsx]
      have hm3' : t < 3 := by omega
      have hpl3 : t < PL.length := by rw [← HPL.out]; exact hm3'
      obtain ⟨p, hpp⟩ : ∃ p, PL[t] = p := ⟨_, rfl⟩
      have hP1 : PL[t]? = some p := by rw [List.getElem?_eq_getElem hpl3, hpp]
      have hpr := HP.out p (by rw [← hpp]; exact List.mem_iff_getElem.2 ⟨t, by rw [List.length_take]; omega, List.getElem_take⟩)
      obtain ⟨pn, rfl⟩ : ∃ pn : Nat, p = pn := ⟨p.toNat, by omega⟩
      have hpn : pn < n := by omega
      have hpE : pn < E.length := by rw [HN.out]; exact hpn
      obtain ⟨y, hy⟩ : ∃ y, E[pn] = y := ⟨_, rfl⟩
      have hGp : Hid (G (pn : Int) = PShow.rk y.op) := Lib.hid (by rw [← HG.out]; unfold PShow.rkAt; rw [Int.toNat_natCast, List.getElem?_eq_getElem hpE, hy])
      have hst := PShow.pcs_take G S PL t (sx, ls) (pn : Int) hS1 hP1
      have hln := PShow.pcs_take_len G S PL (Nat.le_of_lt hm3')
      have hsxl : sx.length ≤ 100000 := HSL.out (sx, ls) (by rw [← hsx]; exact List.getElem_mem _)
      have Sr := S8.out.on I2.out
      obtain ⟨pb, po, rfl, cS⟩ := Sr.at htl
      have cS1 := cS t htS
      rw [hsx] at cS1
      have e0 : wr.cell? ⟨pb, po + t * 2, none⟩ = some (.string ⟨sx.toArray⟩) := cS1 0 _ rfl
      have e1 : wr.cell? ⟨pb, po + t * 2 + 1, none⟩ = some (.int .i64 (ls : Nat)) := cS1 1 _ rfl
      obtain ⟨w9, hw9, SB, b9⟩ : ∃ w9, wr.alloc (.cells #[.string { data := #[] }, .int .i64 0] 171) = w9 ∧ Box w9 wr.heap.size [.string { data := #[] }, .int .i64 0] ∧ Below wr.heap.size wr w9 := ⟨_, rfl, Box.new _ _ [.string { data := #[] }, .int .i64 0], (Below.refl _ _).alloc (Nat.le_refl _) _⟩
      obtain ⟨w10, hw10, X10, ON10⟩ : ∃ w', ((w9.setCell ⟨wr.heap.size, 0, none⟩ (.string ⟨sx.toArray⟩)).setCell ⟨wr.heap.size, 1, none⟩ (.int .i64 (ls : Nat))) = w' ∧ Box w' wr.heap.size [.string ⟨sx.toArray⟩, .int .i64 (ls : Nat)] ∧ Only wr.heap.size w9 w' := ⟨_, rfl, (SB.set 0 (by simp) _).set 1 (by simp) _, ((Only.refl _ w9).set 0 _).set 1 _⟩
      have b10 : Below wr.heap.size wr w10 := ON10.below (Nat.le_refl _) b9
      have E10 := (E8.out.on I2.out).on b10
      have A10 := (HA8.out.on I2.out).on b10
      obtain ⟨ab2, ao2, hAe, cE⟩ := E10.at hpn
      cases hAe
      have cE1 := cE pn hpE
      rw [hy] at cE1
      have ey : w10.cell? ⟨ab, ao + pn * 6, none⟩ = some (.string ⟨y.op.toArray⟩) := cE1 0 _ rfl
      have ea : w10.cell? ⟨w6.heap.size, t, none⟩ = some (.int .i64 (pn : Int)) := by
        have hv : ([.int .i64 ya, .int .i64 yb, .int .i64 yc] : List Value)[t]? = some (.int .i64 (pn : Int)) := by
          have h2 := hP1
          rw [← HPL.out] at h2
          have h3 := congrArg (Option.map (Value.int IntKind.i64)) h2
          rw [← List.getElem?_map] at h3
          exact h3
        exact A10.c t hv
      obtain ⟨s0, s1⟩ := px2 SB
      obtain ⟨g0, g1⟩ := px2f SB
      obtain ⟨u0, u1⟩ := px2 X10
      have hs9 := SB.1
      have hs10 := X10.1
      have hsa := A10.1
      have gtm : (t : Int) < (m : Int) := by omega
      have gt3 : (t : Int) < 3 := by omega
      have gpn : (pn : Int) < (n : Int) := by omega
      have HW10 := Lib.hid hw10
      have B10 := Lib.hid b10; have J1 := Lib.hid I1.out; have J2 := Lib.hid I2.out
      have HST := Lib.hid hst; have HLN := Lib.hid hln; have HX10 := Lib.hid X10; 
      obtain ⟨ry, hry⟩ : ∃ r, PShow.rk y.op = r := ⟨_, rfl⟩
      rw [hry] at hGp
      obtain ⟨fy, hfy⟩ : ∃ r, fnn y.op = r := ⟨_, rfl⟩
      obtain ⟨Sy, hSy⟩ : ∃ r, prt y.op = r := ⟨_, rfl⟩
      obtain ⟨my, hmy⟩ : ∃ r, Sy.length = r := ⟨_, rfl⟩
      have HFM : Hid (∀ wa, Calls Tryz.prog 84 #[.string ⟨y.op.toArray⟩] wa (FormAt ry my Sy fy wa)) := Lib.hid (fun wa => by
        have h := kform_un y.op wa
        unfold FormUn at h
        rw [hry, hfy, hSy, hmy] at h
        exact h)
      clear hry hfy hSy hmy
      clear hw10 X10 ON10 b9 b10 E10 A10 cE cE1 cS cS1 Sr hst hln SB I1 I2 hS1 hP1 hpp hpr hy htS hpl3 hpE hsx hm3'
      go_upto_region 10 with fail
      rw [HW10.out]
      clear HW10 hw9 s0 s1 g0 g1 hs9
      go_wp2_with (go_at_call 84; refine (HFM.out _).mono ?_)
      rintro e11 w11 hf11
      obtain ⟨Py, fcy, oky, rfl, -, -, b11⟩ := hf11
      obtain ⟨w12, hw12, YB, b12⟩ : ∃ w12, w11.alloc (.cells #[.int .i64 0, .slice none 0 0, .string { data := #[] }] 142) = w12 ∧ Box w12 w11.heap.size [.int .i64 0, .slice none 0 0, .string { data := #[] }] ∧ Below w11.heap.size w11 w12 := ⟨_, rfl, Box.new _ _ [.int .i64 0, .slice none 0 0, .string { data := #[] }], (Below.refl _ _).alloc (Nat.le_refl _) _⟩
      obtain ⟨w13, hw13, Y13, ON13⟩ := st3x YB (.int .i64 (ry : Nat)) (.slice Py my fcy) (.string ⟨fy.toArray⟩)
      have b13 : Below w10.heap.size w10 w13 := below_step b11 (ON13.below (Nat.le_refl _) b12)
      have X13 := HX10.out.on b13
      have bw13 := below_step B10.out b13
      have A13 := ((HA8.out.on J2.out).on bw13)
      obtain ⟨y0, y1, y2⟩ := bx3 YB
      obtain ⟨z0, z1, z2⟩ := bx3f YB
      obtain ⟨v0, v1⟩ := px2 X13
      obtain ⟨k0, k1, k2⟩ := bx3 Y13
      have hs12 := YB.1
      have hs13 := Y13.1
      have hsX := X13.1
      have ea13 := (b13.cell (p := ⟨w6.heap.size, t, none⟩) (World.block_lt_of_cell? w10 _ ea)).trans ea
      have hs14 := World.block_lt_of_cell? w13 _ ea13
      have HW13 := Lib.hid hw13
      have BW := Lib.hid bw13
      clear hw13 YB Y13 ON13 b11 b12 b13 X13 bw13 A13 u0 u1 HX10 HFM hs10 hsa ea ey B10 e0 e1
      go_upto_region 11 with fail
      rw [HW13.out]
      clear HW13 hw12 y0 y1 y2 z0 z1 z2 hs12
      have Z0 : w13.drew.cell? ⟨wr.heap.size, 0, none⟩ = some (.string ⟨sx.toArray⟩) ∧ w13.drew.cell? ⟨w6.heap.size, t, none⟩ = some (.int .i64 (pn : Int)) := ⟨v0, ea13⟩
      have hsd : (ByteArray.mk sx.toArray).size = sx.length := by simp [ByteArray.size]
      have gsx : ¬ 9223372036854775807 < sx.length + 1 := by omega
      by_cases hr : ry < ls
      · have grl : (ry : Int) < (ls : Int) := by omega
        have hst2 : PShow.pcs G (S.take (t + 1)) PL = PShow.pcs G (S.take t) PL ++ [(sx ++ [40], (pn : Int)), ([41], -1)] := by
          rw [HST.out]; unfold PShow.onePc; rw [if_pos (by rw [hGp.out]; exact hr)]
        have hbx : ({ data := sx.toArray } ++ { data := #[40] } : ByteArray) = ⟨(sx ++ [40]).toArray⟩ := ByteArray.mk_append_mk sx [40]
        obtain ⟨wX, hwX⟩ : ∃ wX, (w13.alloc (.cells #[.string ({ data := sx.toArray } ++ { data := #[40] }), .int .i64 (pn : Int), .string { data := #[41] }, .int .i64 (-1)] 174)) = wX := ⟨_, rfl⟩
        have bX : Below w13.heap.size w13 wX := by rw [← hwX]; exact (Below.refl _ _).alloc (Nat.le_refl _) _
        have SX : SlX pcR wX.drew (some ⟨w13.heap.size, 0, none⟩) 2 [(sx ++ [40], (pn : Int)), ([41], -1)] := by
          rw [← hwX, hbx]
          have h := Box.new w13 174 (pcR.cells [(sx ++ [40], (pn : Int)), ([41], -1)])
          refine ⟨rfl, .inr ⟨w13.heap.size, 0, rfl, fun i hi j v e => ?_⟩⟩
          rw [Nat.zero_add]
          exact h.c _ (pcR.cells_get _ i hi j v e)
        have bwX : Below wr.heap.size wr wX := below_step BW.out bX
        have OX : wX.drew.ownsRow w8.heap.size 174 pcR.k u8 (PShow.pcs G (S.take t) PL).length (pcR.cells (PShow.pcs G (S.take t) PL)) := own_kept J1.out (Below.drew bwX)
        have sX : w8.heap.size ≤ wX.drew.heap.size := Nat.le_trans J2.out.size bwX.size
        have lX : (PShow.pcs G (S.take t) PL).length + 2 ≤ 100000 := by have := HLN.out; omega
        have ZX : wX.drew.cell? ⟨wr.heap.size, 0, none⟩ = some (.string ⟨sx.toArray⟩) ∧ wX.drew.cell? ⟨w6.heap.size, t, none⟩ = some (.int .i64 (pn : Int)) := ⟨(bX.cell (p := ⟨wr.heap.size, 0, none⟩) hsX).trans v0, (bX.cell (p := ⟨w6.heap.size, t, none⟩) hs14).trans ea13⟩
        have HOX := Lib.hid OX; have HSX := Lib.hid SX; have HsX := Lib.hid sX; have HlX := Lib.hid lX; have HbX := Lib.hid bwX; have HwX := Lib.hid hwX
        have KEEP : Hid (∀ w14 : World, (∀ kk, kk < wX.drew.heap.size → u8.ownBlock ≠ some kk → w14.heap[kk]? = wX.drew.heap[kk]?) → w14.cell? ⟨wr.heap.size, 0, none⟩ = some (.string ⟨sx.toArray⟩) ∧ w14.cell? ⟨w6.heap.size, t, none⟩ = some (.int .i64 (pn : Int))) := Lib.hid (by
          intro w14 b
          have n1 : u8.ownBlock ≠ some wr.heap.size := fun e => Nat.lt_irrefl _ (J1.out.lt _ e).2
          have n2 : u8.ownBlock ≠ some w6.heap.size := fun e => by have := (J1.out.lt _ e).1; omega
          exact ⟨(cell_eq (b _ (World.block_lt_of_cell? wX.drew _ ZX.1) n1)).trans ZX.1, (cell_eq (b _ (World.block_lt_of_cell? wX.drew _ ZX.2) n2)).trans ZX.2⟩)
        subst hwX
        clear OX SX sX lX bwX bX hbx
        go_upto_region 12 with fail
        go_region_held3 (fun w' => w'.cell? ⟨wr.heap.size, 0, none⟩ = some (.string ⟨sx.toArray⟩) ∧ w'.cell? ⟨w6.heap.size, t, none⟩ = some (.int .i64 (pn : Int)))
          (first
            | with_reducible exact Z0
            | with_reducible exact ZX
            | with_reducible exact Z14)
          (first
            | with_reducible
                refine in_w (w13.alloc (.cells #[.string ({ data := sx.toArray } ++ { data := #[40] }), .int .i64 (pn : Int), .string { data := #[41] }, .int .i64 (-1)] 174)).drew ?_
              refine step_append_kept show_pcTy _ rfl _ _ rfl w8.heap.size _ _ (PShow.pcs G (S.take t) PL) rfl HOX.out ⟨w13.heap.size, 0, none⟩ 2 2 [(sx ++ [40], (pn : Int)), ([41], -1)] rfl HSX.out HlX.out HsX.out ?_
              intro v14 w14 own14 b14 k14
              have Z14 := KEEP.out w14 k14
              clear k14
              have HO14 := Lib.hid own14; have HB14 := Lib.hid b14
              clear own14 b14)
        go_wp2_with fail
        exact ⟨⟨t + 1, by omega, by congr 1, Lib.hid (by rw [hst2, List.length_append]; exact HO14.out), Lib.hid (J2.out.trans ((HbX.out.mono J2.out.size).drew.trans HB14.out))⟩, by simp [intOf]; omega⟩
      · have grl : ¬ (ry : Int) < (ls : Int) := by omega
        have hst2 : PShow.pcs G (S.take (t + 1)) PL = PShow.pcs G (S.take t) PL ++ [(sx, (pn : Int))] := by
          rw [HST.out]; unfold PShow.onePc; rw [if_neg (by rw [hGp.out]; exact hr)]
        obtain ⟨wX, hwX⟩ : ∃ wX, (w13.alloc (.cells #[.string { data := sx.toArray }, .int .i64 (pn : Int)] 174)) = wX := ⟨_, rfl⟩
        have bX : Below w13.heap.size w13 wX := by rw [← hwX]; exact (Below.refl _ _).alloc (Nat.le_refl _) _
        have SX : SlX pcR wX.drew (some ⟨w13.heap.size, 0, none⟩) 1 [(sx, (pn : Int))] := by
          rw [← hwX]
          have h := Box.new w13 174 (pcR.cells [(sx, (pn : Int))])
          refine ⟨rfl, .inr ⟨w13.heap.size, 0, rfl, fun i hi j v e => ?_⟩⟩
          rw [Nat.zero_add]
          exact h.c _ (pcR.cells_get _ i hi j v e)
        have bwX : Below wr.heap.size wr wX := below_step BW.out bX
        have OX : wX.drew.ownsRow w8.heap.size 174 pcR.k u8 (PShow.pcs G (S.take t) PL).length (pcR.cells (PShow.pcs G (S.take t) PL)) := own_kept J1.out (Below.drew bwX)
        have sX : w8.heap.size ≤ wX.drew.heap.size := Nat.le_trans J2.out.size bwX.size
        have lX : (PShow.pcs G (S.take t) PL).length + 1 ≤ 100000 := by have := HLN.out; omega
        have ZX : wX.drew.cell? ⟨wr.heap.size, 0, none⟩ = some (.string ⟨sx.toArray⟩) ∧ wX.drew.cell? ⟨w6.heap.size, t, none⟩ = some (.int .i64 (pn : Int)) := ⟨(bX.cell (p := ⟨wr.heap.size, 0, none⟩) hsX).trans v0, (bX.cell (p := ⟨w6.heap.size, t, none⟩) hs14).trans ea13⟩
        have HOX := Lib.hid OX; have HSX := Lib.hid SX; have HsX := Lib.hid sX; have HlX := Lib.hid lX; have HbX := Lib.hid bwX; have HwX := Lib.hid hwX
        have KEEP : Hid (∀ w14 : World, (∀ kk, kk < wX.drew.heap.size → u8.ownBlock ≠ some kk → w14.heap[kk]? = wX.drew.heap[kk]?) → w14.cell? ⟨wr.heap.size, 0, none⟩ = some (.string ⟨sx.toArray⟩) ∧ w14.cell? ⟨w6.heap.size, t, none⟩ = some (.int .i64 (pn : Int))) := Lib.hid (by
          intro w14 b
          have n1 : u8.ownBlock ≠ some wr.heap.size := fun e => Nat.lt_irrefl _ (J1.out.lt _ e).2
          have n2 : u8.ownBlock ≠ some w6.heap.size := fun e => by have := (J1.out.lt _ e).1; omega
          exact ⟨(cell_eq (b _ (World.block_lt_of_cell? wX.drew _ ZX.1) n1)).trans ZX.1, (cell_eq (b _ (World.block_lt_of_cell? wX.drew _ ZX.2) n2)).trans ZX.2⟩)
        subst hwX
        clear OX SX sX lX bwX bX
        go_upto_region 13 with fail
        go_region_held3 (fun w' => w'.cell? ⟨wr.heap.size, 0, none⟩ = some (.string ⟨sx.toArray⟩) ∧ w'.cell? ⟨w6.heap.size, t, none⟩ = some (.int .i64 (pn : Int)))
          (first
            | with_reducible exact Z0
            | with_reducible exact ZX
            | with_reducible exact Z14)
          (first
            | with_reducible
                refine in_w (w13.alloc (.cells #[.string { data := sx.toArray }, .int .i64 (pn : Int)] 174)).drew ?_
              refine step_append_kept show_pcTy _ rfl _ _ rfl w8.heap.size _ _ (PShow.pcs G (S.take t) PL) rfl HOX.out ⟨w13.heap.size, 0, none⟩ 1 1 [(sx, (pn : Int))] rfl HSX.out HlX.out HsX.out ?_
              intro v14 w14 own14 b14 k14
              have Z14 := KEEP.out w14 k14
              clear k14
              have HO14 := Lib.hid own14; have HB14 := Lib.hid b14
              clear own14 b14)
        go_wp2_with fail
        exact ⟨⟨t + 1, by omega, by congr 1, Lib.hid (by rw [hst2, List.length_append]; exact HO14.out), Lib.hid (J2.out.trans ((HbX.out.mono J2.out.size).drew.trans HB14.out))⟩, by simp [intOf]; omega⟩
    · obtain rfl : t = m := by omega
      have O := I1.out
      rw [List.take_of_length_le (by rw [HM.out]; exact Nat.le_refl _)] at O
      have hnk : (PShow.pcs G S PL).length + 1 ≤ 100000 := by have := PShow.pcs_len G S PL; have := HM.out; omega
      have hcl : w8.heap.size ≤ wr.heap.size := I2.out.size
      have HO := Lib.hid O; have HNK := Lib.hid hnk; have HCL := Lib.hid hcl
      have R := R8.out.on I2.out
      obtain ⟨r0, r1, r2⟩ := bx3 R
      have hsr := R.1
      have HI := Lib.hid I2.out
      clear O I1 R I2 q0 q1 q2 hsq hnk hcl ht htl hm3 hm0
      go_wp2_with (at_builtin; refine append_rec show_pcTy rfl _ _ rfl w8.heap.size _ (PShow.pcs G S PL) (fx, -1) (by rfl) HO.out (by rfl) HNK.out HCL.out ?_)
      intro v' w9 own b9
      have HO9 := Lib.hid own; have HB9 := Lib.hid b9
      clear own b9
      go_wp2_with fail
      refine FIN.out _ _ ?_ ?_
      · rw [List.length_append]; exact own_base HO9.out C8.out.size
      · exact (C8.out.trans (HI.out.mono C8.out.size)).trans (HB9.out.mono C8.out.size)
end Go.Proofs.YtdkcdgjpcojdfaaGreatDoor

set_option linter.unusedVariables false
namespace Go.Proofs.YtdkcdgjpcojdfaaGreatDoor
open Go.RowKit
open PCheck (Xp)
open PShow (Pc)

theorem prt_all : ∀ op ∈ opK, ∀ s ∈ prt op, s.1.length ≤ 100000 := by decide +kernel
theorem prt_small (op : List UInt8) : ∀ s ∈ prt op, s.1.length ≤ 100000 := by
  by_cases h : op ∈ opK
  · exact prt_all op h
  · intro s hs
    unfold prt at hs
    rw [form_none h] at hs
    cases hs
theorem kpieces_any {w : World} {A : Option Addr} {n c k : Nat} {E : List Xp} {x : Xp} (hE : SlX xpR w A n E) (hx : E[k]? = some x) (ht : Tab w) (h0 : -9223372036854775808 ≤ x.value) (h1 : x.value ≤ 9223372036854775807) (hp : ∀ p ∈ (PShow.places x).take (prt x.op).length, 0 ≤ p ∧ p < (n : Int)) :
    Calls Tryz.prog 108 #[.slice A n c, .int .i64 (k : Nat)] w (PcAns (PShow.pieces (PShow.rkAt E) x) w) := by
  rw [pieces_un]
  by_cases h : prt x.op = []
  · rw [if_pos h]
    exact kpieces_leaf hE hx ht h0 h1 h
  · rw [if_neg h]
    exact kpieces_parts hE hx rfl rfl (by intro e; exact h (List.eq_nil_of_length_eq_zero e)) hp (prt_small x.op)
end Go.Proofs.YtdkcdgjpcojdfaaGreatDoor
