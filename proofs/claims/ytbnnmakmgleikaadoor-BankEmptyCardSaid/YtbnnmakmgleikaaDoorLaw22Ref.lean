/-
  A file as the document's: the same payments, in memory of the call's own.
-/
import Derived.Test.YtbnnmakmgleikaaDoorBkFile
import Derived.Test.YtbnnmakmgleikaaDoorStepRec
set_option linter.unusedVariables false
namespace Go.Proofs.YtbnnmakmgleikaaDoor
open Go.RowKit
open PBank (Pay)

theorem docpay_recTy : RecTy payR 63 30 24 where
  info := ⟨.agg #[.int .u8 0, .int .i64 0, .int .i64 0], by kernel_rfl, by rfl⟩
  under := by kernel_rfl
  few := by decide
/-- The same payments, in a block of the call's own. -/
def RfB (per : Int) (l : List Pay) (w : World) (e : Ending) (w' : World) : Prop := ∃ A c, e = .returned (.agg #[.int .i64 per, .slice A l.length c]) ∧ SlX payR w' A l.length l ∧ (A = none → c = 0) ∧ (∀ a, A = some a → w.heap.size ≤ a.block) ∧ Below w.heap.size w w'
theorem f2 {w : World} {H : Nat} {a b : Value} (h : Box w H [a, b]) : w.frozen? ⟨H, 0, none⟩ = false ∧ w.frozen? ⟨H, 1, none⟩ = false := ⟨h.f 0 rfl, h.f 1 rfl⟩
/-- The blocks that are laid first: the argument, the result. -/
theorem ref22_enter (w : World) (t t2 : TypeId) (a b : Value) : ∃ w1, (w.alloc (.cells #[a, b] t)).alloc (.cells #[.int .i64 0, .slice none 0 0] t2) = w1 ∧ Box w1 w.heap.size [a, b] ∧ Box w1 (w.heap.size + 1) [.int .i64 0, .slice none 0 0] ∧ Below w.heap.size w w1 ∧ w1.heap.size = w.heap.size + 2 :=
  ⟨_, rfl, (Box.new w t [a, b]).alloc _, Box.new' _ t2 [.int .i64 0, .slice none 0 0] (by simp), ((Below.refl _ _).alloc (Nat.le_refl _) _).alloc (by simp) _, by simp⟩
set_option maxRecDepth 100000 in
set_option maxHeartbeats 6400000 in
theorem bref_any {w : World} {per : Int} {A : Option Addr} {n c : Nat} {l : List Pay} (hS : SlX payR w A n l) (hn : n ≤ 90000) :
    Calls Tryd.prog 12 #[.agg #[.int .i64 per, .slice A n c]] w (RfB per l w) := by
  obtain ⟨Q, hQ⟩ : ∃ Q, RfB per l w = Q := ⟨_, rfl⟩
  rw [hQ]
  have hl : l.length = n := hS.1
  have FIN : Hid (∀ (A : Option Addr) (c : Nat) (w' : World), SlX payR w' A n l → (A = none → c = 0) → (∀ a, A = some a → w.heap.size ≤ a.block) → Below w.heap.size w w' → Q (.returned (.agg #[.int .i64 per, .slice A n c])) w') := Lib.hid (fun A c w' h k fr a => by
    rw [← hQ]
    exact ⟨A, c, by rw [hl], by rw [hl]; exact h, k, fr, a⟩)
  obtain ⟨w1, hw1, TB0, RB0, b1, hs1⟩ := ref22_enter w 24 32 (.int .i64 per) (.slice A n c)
  obtain ⟨L, hL⟩ : ∃ L, w.heap.size = L := ⟨_, rfl⟩
  rw [hL] at TB0 RB0 b1 hs1 FIN
  obtain ⟨p0, p1⟩ := c2 TB0
  have hsz := TB0.1
  obtain ⟨w0, hw0, OB, b0⟩ : ∃ w0, w1.alloc (.cells #[.int .i64 0, .slice none 0 0] 32) = w0 ∧ Box w0 w1.heap.size [.int .i64 0, .slice none 0 0] ∧ Below w1.heap.size w1 w0 := ⟨_, rfl, Box.new _ _ [.int .i64 0, .slice none 0 0], (Below.refl _ _).alloc (Nat.le_refl _) _⟩
  have TB := TB0.on b0
  have RB := RB0.on b0
  have b01 := b1.trans (b0.mono (by omega))
  rw [hs1] at OB
  obtain ⟨o0, o1⟩ := c2 OB
  obtain ⟨of0, of1⟩ := f2 OB
  have hso := OB.1
  obtain ⟨w2, hw2, O2, ON2⟩ : ∃ w2, (w0.setCell ⟨L + 2, 0, none⟩ (.int .i64 per)).setCell ⟨L + 2, 1, none⟩ (.slice none 0 0) = w2 ∧ Box w2 (L + 2) [.int .i64 per, .slice none 0 0] ∧ Only (L + 2) w0 w2 := ⟨_, rfl, (OB.set 0 (by simp) _).set 1 (by simp) _, ((Only.refl _ _).set 0 _).set 1 _⟩
  have T2 := TB.only ON2 (by omega)
  have R2 := Lib.hid (RB.only ON2 (by omega))
  have B2 := Lib.hid (ON2.below (by omega) b01)
  obtain ⟨q0, q1⟩ := c2 T2
  have hsq := T2.1
  have HS := Lib.hid hS; have HL := Lib.hid hL; have HLL := Lib.hid hl
  have HW1 := Lib.hid hw1; have HW2 := Lib.hid hw2; have O2 := Lib.hid O2
  have gn : (n : Int) ≤ 90000 := by omega
  clear hw1 hw2 TB RB TB0 RB0 OB b1 b0 b01 T2 ON2 hS hl hQ
  go_enter Tryd.func12, Tryd.ntmps12
  go_upto_region 1 with fail
  (try rw [hL])
  rw [HW1.out]
  clear HW1
  go_upto_region 2 with fail
  rw [HW2.out]
  clear HW2 hw0 hs1 p0 p1 hsz o0 o1 of0 of1 hso
  go_wp2_with fail
  clear q0 q1 hsq
  go_loopw [12] (fun i wr => ∃ (k : Nat) (v : Value), k ≤ n ∧ i = .int .i64 k ∧ Hid (Box wr (L + 2) [.int .i64 per, v]) ∧ Hid (Box wr (L + 1) [.int .i64 0, .slice none 0 0]) ∧ Hid (wr.ownsRow (L + 3) 63 3 v k (payR.cells (l.take k))) ∧ Hid (Below L w wr)) (fun i _ => n - (intOf i).toNat)
  case atStart => exact ⟨0, .slice none 0 0, Nat.zero_le _, rfl, O2, R2, Lib.hid (World.ownsRow_nil _ _ _ _), B2⟩
  case round =>
    clear O2 R2 B2
    obtain ⟨k, v, hk, rfl, I1, I2, I3, I4⟩ := hrel
    by_cases hlt : k < n
    · have IA := HS.out.on (by rw [HL.out]; exact I4.out)
      obtain ⟨b, off, rfl, -⟩ := IA.at hlt
      have hkl : k < l.length := by rw [HLL.out]; exact hlt
      obtain ⟨p, hp⟩ : ∃ p, l[k]? = some p := ⟨_, List.getElem?_eq_getElem hkl⟩
      obtain ⟨l0, l1, l2⟩ := pay_cell IA hlt hp
      have hsl := World.block_lt_of_cell? wr _ l0
      have gi : (k : Int) < (n : Int) := by omega
      have gi0 : (0 : Int) ≤ (k : Int) := by omega
      obtain ⟨w9, hw9, SB, b9⟩ : ∃ w9, wr.alloc (.cells #[.int .u8 0, .int .i64 0, .int .i64 0] 44) = w9 ∧ Box w9 wr.heap.size [.int .u8 0, .int .i64 0, .int .i64 0] ∧ Below wr.heap.size wr w9 := ⟨_, rfl, Box.new _ _ [.int .u8 0, .int .i64 0, .int .i64 0], (Below.refl _ _).alloc (Nat.le_refl _) _⟩
      obtain ⟨w10, hw10, X10, ON10⟩ := set3 SB (.int .u8 p.kind) (.int .i64 p.num) (.int .i64 p.amt)
      have b10 : Below wr.heap.size wr w10 := ON10.below (Nat.le_refl _) b9
      obtain ⟨s0, s1, s2⟩ := b3 SB
      obtain ⟨m0, m1, m2⟩ := f3 SB
      have hs9 := SB.1
      obtain ⟨u0, u1, u2⟩ := b3 X10
      have hs10 := X10.1
      have O10 := I1.out.on b10
      obtain ⟨o0, o1⟩ := c2 O10
      have hso := O10.1
      have htk : (l.take k).length = k := by rw [List.length_take]; omega
      have R10 : Hid (w10.ownsRow (L + 3) 63 payR.k v (l.take k).length (payR.cells (l.take k))) := Lib.hid (by rw [htk]; exact own_kept I3.out b10)
      have hcl : L + 3 ≤ w10.heap.size := by have := I1.out.1; have := b10.size; omega
      have hnk : (l.take k).length + 1 ≤ 100000 := by rw [htk]; omega
      have HO := Lib.hid O10
      have T10 := Lib.hid (I2.out.on b10)
      have B10 := Lib.hid (I4.out.trans (b10.mono (Nat.le_trans (Nat.le_succ L) (Nat.le_of_lt I2.out.1))))
      have HP := Lib.hid hp
      have HW10 := Lib.hid hw10
      clear hw10 b9 b10 SB X10 ON10 I1 I2 I3 I4 IA hp O10
      go_upto_region 5 with fail
      rw [HW10.out]
      clear HW10 hw9 s0 s1 s2 m0 m1 m2 hs9 l0 l1 l2 hsl
      go_wp2_with (at_builtin; refine append_rec docpay_recTy rfl _ _ rfl (L + 3) v (l.take k) p (by rfl) R10.out (by rfl) hnk hcl ?_)
      intro v' w3 hown hb3
      have O3 := HO.out.keep hb3 (Nat.lt_succ_self _)
      have T3 := T10.out.keep hb3 (by omega)
      have B3 := B10.out.trans (hb3.mono (by omega))
      obtain ⟨g0, g1⟩ := c2 O3
      obtain ⟨h0, h1⟩ := f2 O3
      have hs3 := O3.1
      have htk1 : l.take (k + 1) = l.take k ++ [p] := by rw [List.take_add_one, HP.out]; rfl
      have FN : Hid (Box (w3.setCell ⟨L + 2, 1, none⟩ v') (L + 2) [.int .i64 per, v'] ∧ Box (w3.setCell ⟨L + 2, 1, none⟩ v') (L + 1) [.int .i64 0, .slice none 0 0] ∧ (w3.setCell ⟨L + 2, 1, none⟩ v').ownsRow (L + 3) 63 3 v' (k + 1) (payR.cells (l.take (k + 1))) ∧ Below L w (w3.setCell ⟨L + 2, 1, none⟩ v')) := Lib.hid (by
        refine ⟨O3.set 1 (by simp) v', T3.far (by show L + 2 ≠ L + 1; omega) v', ?_, B3.setCell (by show L ≤ L + 2; omega) v'⟩
        (try rw [htk] at hown)
        rw [htk1]; exact ownsRow_setCell_below hown (by show L + 2 < L + 3; omega) v')
      obtain ⟨vA, vc, rfl, _⟩ := own_slice hown
      clear hown hb3 O3 T3 B3 HO T10 B10 R10 o0 o1 u0 u1 u2 hs10 htk1 hso
      go_wp2_with fail
      exact ⟨⟨k + 1, _, by omega, rfl, Lib.hid FN.out.1, Lib.hid FN.out.2.1, Lib.hid FN.out.2.2.1, Lib.hid FN.out.2.2.2⟩, by simp [intOf]; omega⟩
    · obtain rfl : k = n := by omega
      have gi : ¬ (k : Int) < (k : Int) := by omega
      have htn : l.take k = l := List.take_of_length_le (by rw [HLL.out]; exact Nat.le_refl _)
      obtain ⟨vA, vc, rfl, hva⟩ := own_slice I3.out
      have SA : Hid (SlX payR wr vA k l) := Lib.hid (by
        have h := I3.out
        rw [htn] at h
        obtain ⟨A', c', e, _, _, h⟩ := slr_of_own h HLL.out
        cases e; exact h)
      have HVA := Lib.hid hva
      have FVA := Lib.hid (own_from I3.out)
      obtain ⟨t0, t1⟩ := c2 I2.out
      obtain ⟨tf0, tf1⟩ := f2 I2.out
      have hst := I2.out.1
      obtain ⟨o0, o1⟩ := c2 I1.out
      have hso := I1.out.1
      obtain ⟨w9, hw9, X9, ON9⟩ : ∃ w9, (wr.setCell ⟨L + 1, 0, none⟩ (.int .i64 per)).setCell ⟨L + 1, 1, none⟩ (.slice vA k vc) = w9 ∧ Box w9 (L + 1) [.int .i64 per, .slice vA k vc] ∧ Only (L + 1) wr w9 := ⟨_, rfl, (I2.out.set 0 (by simp) _).set 1 (by simp) _, ((Only.refl _ _).set 0 _).set 1 _⟩
      have HSL9 : Hid (SlX payR w9 vA k l) := Lib.hid (by
        rw [← hw9]
        exact (SA.out.far (B := L + 3) FVA.out (by show L + 1 < _; omega) _).far (B := L + 3) FVA.out (by show L + 1 < _; omega) _)
      have B9 := Lib.hid (ON9.below (by omega) I4.out)
      obtain ⟨k0, k1⟩ := c2 X9
      have hk9 := X9.1
      have HW9 := Lib.hid hw9
      clear X9 ON9 hw9 SA I1 I2 I3 I4 hlt htn hva
      go_wp2_with fail
      rw [HW9.out]
      clear t0 t1 tf0 tf1 hst o0 o1 hso
      refine bodyPost_ret (by simp [results, Tryd.results12, go_sem, k0, k1]; try rfl) rfl ?_
      exact FIN.out _ _ _ HSL9.out HVA.out (fun a ha => by have := FVA.out a ha; omega) B9.out
end Go.Proofs.YtbnnmakmgleikaaDoor
