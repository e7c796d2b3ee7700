/-
  The fixed answer of stage 22's statements is true.
-/
import Derived.Test.YtbnnmakmgleikaaDoorBkRead
import Derived.Test.YtbnnmakmgleikaaDoorLaw22Ref
set_option linter.unusedVariables false
set_option linter.unusedSimpArgs false
namespace Go.Proofs.YtbnnmakmgleikaaDoor
open Go.RowKit
open PBank (Pay)

/-- Read, of a file's text; of a text that is none's. -/
def RdY (per : Int) (l : List Pay) (n : Nat) (w : World) (e : Ending) (w' : World) : Prop := ∃ A c, e = .returned (.tuple #[.agg #[.int .i64 per, .slice A n c], .int .i64 0]) ∧ SlX payR w' A n l ∧ Below w.heap.size w w'
def RdN (w : World) (e : Ending) (w' : World) : Prop := e = .returned (.tuple #[.agg #[.int .i64 0, .slice none 0 0], .int .i64 2]) ∧ Below w.heap.size w w'
theorem read_yes {per : Int} {l : List Pay} {n : Nat} {s : ByteArray} (hR : PBank.Rt per l) (hs : s.data.toList = PBank.txt per l) (hn : l.length = n) (w : World) (he : ErrV w) (ht : Tab w) :
    Calls Tryd.prog 14 #[.string s] w (RdY per l n w) := by
  have hl := PBank.txt_len hR
  have hf := hR.few
  have hz : s.size = 33 + 28 * l.length := by rw [← hl, ← hs]; simp
  obtain ⟨g1, g2⟩ := PBank.guess_txt hR
  refine (kread_any s w he ht (by omega)).mono ?_
  rintro e w' (⟨h, A, c, rfl, h2, h3⟩ | ⟨h, -⟩)
  · rw [hs, g2, hn] at h2
    exact ⟨A, c, by rw [hs, g1, g2, hn], h2, h3⟩
  · rw [hs] at h; exact absurd (PBank.isTx_txt hR) h
theorem read_no {s : ByteArray} (hs : ¬ PBank.isTx s.data.toList) (hz : (s.size : Int) ≤ 9223372036854775807) (w : World) (he : ErrV w) (ht : Tab w) :
    Calls Tryd.prog 14 #[.string s] w (RdN w) := by
  refine (kread_any s w he ht hz).mono ?_
  rintro e w' (⟨h, -⟩ | ⟨-, rfl, h3⟩)
  · exact absurd h hs
  · exact ⟨rfl, h3⟩
def awP : Pay := ⟨69, 1, 9000⟩
theorem aw_rt : PBank.Rt 24276 [awP] := by decide
theorem aw_txt : PBank.txt 24276 [awP] = [72, 50, 52, 50, 55, 54, 10, 69, 48, 48, 48, 48, 48, 48, 48, 48, 48, 49, 48, 48, 48, 48, 48, 48, 48, 48, 48, 48, 48, 48, 57, 48, 48, 48, 10, 84, 48, 48, 48, 49, 48, 48, 48, 48, 48, 48, 48, 48, 48, 48, 48, 48, 48, 48, 48, 48, 57, 48, 48, 48, 10] := by decide +kernel
theorem aw_none : ¬ PBank.isTx [72, 50, 52, 50, 55, 54, 10] := fun h => absurd (PBank.isTx_len h) (by decide)
theorem pay_slice (w : World) (p : Pay) : SlX payR (w.alloc (.cells #[.int .u8 p.kind, .int .i64 p.num, .int .i64 p.amt] 44)) (some ⟨w.heap.size, 0, none⟩) 1 [p] := by
  refine ⟨rfl, .inr ⟨w.heap.size, 0, rfl, fun i hi j v e => ?_⟩⟩
  obtain rfl : i = 0 := by simpa using hi
  have e' : (payR.C p)[j]? = some v := e
  rw [Nat.zero_mul, Nat.zero_add]
  rcases j with _ | _ | _ | j
  · obtain rfl := Option.some.inj e'; go_simp
  · obtain rfl := Option.some.inj e'; go_simp
  · obtain rfl := Option.some.inj e'; go_simp
  · cases e'
theorem file_box (w : World) (t : TypeId) (per : Int) (A : Option Addr) (n c : Nat) : ∃ w1 w2, w.alloc (.cells #[.int .i64 0, .slice none 0 0] t) = w1 ∧ (w1.setCell ⟨w.heap.size, 0, none⟩ (.int .i64 per)).setCell ⟨w.heap.size, 1, none⟩ (.slice A n c) = w2 ∧ Box w1 w.heap.size [.int .i64 0, .slice none 0 0] ∧ Box w2 w.heap.size [.int .i64 per, .slice A n c] ∧ Below w.heap.size w w2 := by
  have B := Box.new w t [.int .i64 0, .slice none 0 0]
  exact ⟨_, _, rfl, rfl, B, (B.set 0 (by simp) _).set 1 (by simp) _, (((Only.refl w.heap.size _).set 0 _).set 1 _).below (Nat.le_refl _) ((Below.refl _ _).alloc (Nat.le_refl _) _)⟩
set_option maxHeartbeats 6400000 in
set_option maxRecDepth 100000 in
theorem aw22_any (w : World) (ht : Tab w) (he : ErrV w) : Calls Tryd.prog 9 #[] w (FlagB true w) := by
  obtain ⟨Q, hQ⟩ : ∃ Q, FlagB true w = Q := ⟨_, rfl⟩
  rw [hQ]
  have FIN : Hid (∀ (w' : World), Below w.heap.size w w' → Q (.returned (.bool true)) w') := Lib.hid (fun w' a => by rw [← hQ]; exact ⟨rfl, a⟩)
  obtain ⟨w1, hw1, S1, b1⟩ : ∃ w1, w.alloc (.cells #[.int .u8 69, .int .i64 1, .int .i64 9000] 44) = w1 ∧ SlX payR w1 (some ⟨w.heap.size, 0, none⟩) 1 [awP] ∧ Below w.heap.size w w1 := ⟨_, rfl, pay_slice w awP, (Below.refl _ _).alloc (Nat.le_refl _) _⟩
  have CW := Lib.hid (by have h := kbwrite_yes (per := 24276) (c := 1) S1 (by decide) (ht.on b1) aw_rt; rw [aw_txt] at h; exact h)
  have HT1 := Lib.hid (ht.on b1); have HE1 := Lib.hid (he.on b1)
  have HW1 := Lib.hid hw1; have B1 := Lib.hid b1
  clear hQ hw1 b1 S1 ht he
  go_enter Tryd.func9, Tryd.ntmps9
  go_wp2_with (rw [HW1.out]; go_at_call 10; refine CW.out.mono ?_)
  intro e2 w2 h2
  obtain ⟨rfl, b2⟩ := h2
  have CR := Lib.hid (read_yes (s := ⟨#[72, 50, 52, 50, 55, 54, 10, 69, 48, 48, 48, 48, 48, 48, 48, 48, 48, 49, 48, 48, 48, 48, 48, 48, 48, 48, 48, 48, 48, 48, 57, 48, 48, 48, 10, 84, 48, 48, 48, 49, 48, 48, 48, 48, 48, 48, 48, 48, 48, 48, 48, 48, 48, 48, 48, 48, 57, 48, 48, 48, 10]⟩) aw_rt aw_txt.symm (n := 1) rfl w2 (HE1.out.on b2) (HT1.out.on b2))
  have HT2 := Lib.hid (HT1.out.on b2); have HE2 := Lib.hid (HE1.out.on b2)
  have B2 := Lib.hid (below_step B1.out b2)
  clear b2 CW HT1 HE1 B1 HW1
  go_wp2_with (go_at_call 14; refine CR.out.mono ?_)
  intro e3 w3 h3
  obtain ⟨A, c, rfl, S3, b3'⟩ := h3
  obtain ⟨w4, w5, hw4, hw5, X4, X5, b35⟩ := file_box w3 24 24276 A 1 c
  obtain ⟨x0, x1⟩ := c2 X4
  obtain ⟨xf0, xf1⟩ := f2 X4
  have hsx := X4.1
  have b5 := below_step b3' b35
  have HX5 := Lib.hid X5; have HT5 := Lib.hid (HT2.out.on b5); have HE5 := Lib.hid (HE2.out.on b5)
  have B5 := Lib.hid (below_step B2.out b5)
  have S5 := Lib.hid (S3.on b35)
  have HW5 := Lib.hid hw5
  have CN := Lib.hid (read_no (s := ⟨#[72, 50, 52, 50, 55, 54, 10]⟩) aw_none (by decide) w5 HE5.out HT5.out)
  clear CR HT2 HE2 B2 S3 b3' X4 X5 b35 b5 hw5
  go_upto_region 3 with fail
  rw [HW5.out]
  clear HW5 hw4 x0 x1 xf0 xf1 hsx
  go_wp2_with (go_at_call 14; refine CN.out.mono ?_)
  intro e6 w6 h6
  obtain ⟨rfl, b6⟩ := h6
  obtain ⟨w7, w8, hw7, hw8, X7, X8, b68⟩ := file_box w6 24 0 none 0 0
  obtain ⟨x0, x1⟩ := c2 X7
  obtain ⟨xf0, xf1⟩ := f2 X7
  have hsx := X7.1
  have b8 := below_step b6 b68
  have X5' := HX5.out.on b8
  have CG := Lib.hid (by have h := kright_any (per := 24276) (c := c) (S5.out.on b8) (by decide); rw [decide_eq_true aw_rt] at h; exact h)
  have B8 := Lib.hid (below_step B5.out b8)
  have HW8 := Lib.hid hw8
  obtain ⟨y0, y1⟩ := c2 X5'
  have hsy := X5'.1
  clear CN b6 X7 X8 b68 b8 hw8 X5' HX5 HT5 HE5 S5 B5
  go_upto_region 4 with fail
  rw [HW8.out]
  clear HW8 hw7 x0 x1 xf0 xf1 hsx
  go_wp2_with (go_at_call 13; refine CG.out.mono ?_)
  intro e9 w9 h9
  obtain ⟨rfl, b9⟩ := h9
  have B9 := Lib.hid (below_step B8.out b9)
  clear b9 CG B8
  go_wp2_with fail
  exact FIN.out _ B9.out
end Go.Proofs.YtbnnmakmgleikaaDoor
