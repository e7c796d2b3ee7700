/-
  BankWrites: the text of any file is what the document says, or refused; and it is read back.
-/
import Derived.Test.YtbnnmakmgleikaaDoorLaw22Kit
import Derived.Deep.RegionHeld3
set_option linter.unusedVariables false
namespace Go.Proofs.YtbnnmakmgleikaaDoor
open Go.RowKit
open PBank (Pay)

theorem keepB4 {w w' : World} {p q r s : Addr} {a b c d : Value} (hb : Below w.heap.size w w') (h : (w.cell? p = some a ∧ w.cell? q = some b) ∧ (w.cell? r = some c ∧ w.cell? s = some d)) : (w'.cell? p = some a ∧ w'.cell? q = some b) ∧ (w'.cell? r = some c ∧ w'.cell? s = some d) := ⟨⟨cell_keep hb h.1.1, cell_keep hb h.1.2⟩, cell_keep hb h.2.1, cell_keep hb h.2.2⟩
/-- Write, of a file. -/
def WrS (s : ByteArray) (w : World) (e : Ending) (w' : World) : Prop := e = .returned (.tuple #[.string s, .int .i64 0]) ∧ Below w.heap.size w w'
set_option maxRecDepth 100000 in
set_option maxHeartbeats 12800000 in
theorem bwrites_walk {per : Int} {A : Option Addr} {n c : Nat} {l : List Pay} (w : World) (ht : TabE w) (hS : SlX payR w A n l) (hn : (n : Int) ≤ 9223372036854775807) : Calls Tryd.prog 3 #[.agg #[.int .i64 per, .slice A n c]] w (FlagB true w) := by
  obtain ⟨Q, hQ⟩ : ∃ Q, FlagB true w = Q := ⟨_, rfl⟩
  rw [hQ]
  have FIN : Hid (∀ (w' : World), Below w.heap.size w w' → Q (.returned (.bool true)) w') := Lib.hid (fun w' a => by rw [← hQ]; exact ⟨rfl, a⟩)
  obtain ⟨w1, hw1, XB, b1⟩ : ∃ w1, w.alloc (.cells #[.int .i64 per, .slice A n c] 24) = w1 ∧ Box w1 w.heap.size [.int .i64 per, .slice A n c] ∧ Below w.heap.size w w1 := ⟨_, rfl, Box.new _ _ [.int .i64 per, .slice A n c], (Below.refl _ _).alloc (Nat.le_refl _) _⟩
  obtain ⟨x0, x1⟩ := c2 XB
  have hsx := XB.1
  have HS := Lib.hid (hS.on b1); have HXB := Lib.hid XB; have HT := Lib.hid (ht.on b1)
  have B1 := Lib.hid b1; have HW1 := Lib.hid hw1
  have hln : l.length = n := hS.1
  clear hQ XB b1 hw1 hS ht
  by_cases h6 : 100 < n
  · have gl : (100 : Int) < (n : Int) := by omega
    have AW := Lib.hid (aw22_any w1 HT.out.1 HT.out.2)
    go_enter Tryd.func3, Tryd.ntmps3
    go_upto_region 1 with fail
    rw [HW1.out]
    go_wp2_with (go_at_call 9; refine AW.out.mono ?_)
    intro e2 w2 h2
    obtain ⟨rfl, b2⟩ := h2
    have B2 := Lib.hid (below_step B1.out b2)
    clear b2 AW
    go_wp2_with fail
    exact FIN.out _ B2.out
  have gl : ¬ (100 : Int) < (n : Int) := by omega
  have hn1 : n ≤ 100 := by omega
  have C2 : Hid (∀ wz, Below w1.heap.size w1 wz → Calls Tryd.prog 12 #[.agg #[.int .i64 per, .slice A n c]] wz (RfN per l n wz)) := Lib.hid (fun wz hb => bref_n (HS.out.on hb) (by omega))
  by_cases hR : PBank.Rt per l
  · have CW := Lib.hid (kbwrite_yes (per := per) (c := c) HS.out hn HT.out.1 hR)
    have HR := Lib.hid hR
    have CG : Hid (∀ wz, Below w1.heap.size w1 wz → Calls Tryd.prog 13 #[.agg #[.int .i64 per, .slice A n c]] wz (FlagB true wz)) := Lib.hid (fun wz hb => by
      have h := kright_any (per := per) (c := c) (HS.out.on hb) hn
      rw [decide_eq_true HR.out] at h; exact h)
    obtain ⟨s, hs⟩ : ∃ s : ByteArray, (⟨(PBank.txt per l).toArray⟩ : ByteArray) = s := ⟨_, rfl⟩
    have hsl : s.data.toList = PBank.txt per l := by rw [← hs]
    have CW2 : Hid (Calls Tryd.prog 10 #[.agg #[.int .i64 per, .slice A n c]] w1 (WrS s w1)) := Lib.hid (by rw [← hs]; exact CW.out)
    have HSL := Lib.hid hsl; have HLN := Lib.hid hln
    clear hR CW hs hsl hln h6
    go_enter Tryd.func3, Tryd.ntmps3
    go_upto_region 1 with fail
    rw [HW1.out]
    go_wp2_with (go_at_call 10; refine CW2.out.mono ?_)
    intro e2 w2 h2
    obtain ⟨rfl, b2⟩ := h2
    have D2 := Lib.hid (C2.out w2 b2)
    have B2 := Lib.hid b2
    obtain ⟨y0, y1⟩ := c2 (HXB.out.on b2)
    have hsy := (HXB.out.on b2).1
    clear b2 CW2 x0 x1 hsx
    go_wp2_with (go_at_call 12; refine D2.out.mono ?_)
    intro e3 w3 h3
    obtain ⟨A3, c3, rfl, S3, b3'⟩ := h3
    have D3 := Lib.hid (right_n (per := per) (c := c3) S3 (by omega) HR.out)
    have B3 := Lib.hid (below_step B2.out b3')
    clear S3 b3' D2 y0 y1 hsy B2
    go_wp2_with (go_at_call 11; refine D3.out.mono ?_)
    intro e4 w4 h4
    obtain ⟨rfl, b4⟩ := h4
    have b14 := below_step B3.out b4
    have D4 := Lib.hid (CG.out w4 b14)
    have B4 := Lib.hid b14
    obtain ⟨y0, y1⟩ := c2 (HXB.out.on b14)
    have hsy := (HXB.out.on b14).1
    clear b4 b14 D3 B3
    go_wp2_with (go_at_call 13; refine D4.out.mono ?_)
    intro e5 w5 h5
    obtain ⟨rfl, b5⟩ := h5
    have b15 := below_step B4.out b5
    have D5 := Lib.hid (read_yes HR.out HSL.out HLN.out w5 (HT.out.on b15).2 (HT.out.on b15).1)
    have B5 := Lib.hid b15
    clear b5 b15 D4 y0 y1 hsy CG B4
    go_wp2_with (go_at_call 14; refine D5.out.mono ?_)
    intro e6 w6 h6
    obtain ⟨A6, c6, rfl, S6, b6⟩ := h6
    obtain ⟨w7, w8, hw7, hw8, X7, X8, b68⟩ := file_box w6 24 per A6 n c6
    obtain ⟨x0, x1⟩ := c2 X7
    obtain ⟨xf0, xf1⟩ := f2 X7
    have hsx := X7.1
    obtain ⟨z0, z1⟩ := c2 X8
    have hsz := X8.1
    have b18 := below_step B5.out (below_step b6 b68)
    obtain ⟨y0, y1⟩ := c2 (HXB.out.on b18)
    have hsy := (HXB.out.on b18).1
    have B8 := Lib.hid b18
    have S8 := Lib.hid (S6.on b68)
    have HW8 := Lib.hid hw8
    clear b6 S6 X7 X8 b68 hw8 D5 b18
    go_upto_region 10 with fail
    rw [HW8.out]
    clear HW8 hw7 x0 x1 xf0 xf1 hsx
    have Z0 : (w8.drew.cell? ⟨w.heap.size, 0, none⟩ = some (.int .i64 per) ∧ w8.drew.cell? ⟨w.heap.size, 1, none⟩ = some (.slice A n c)) ∧ (w8.drew.cell? ⟨w6.heap.size, 0, none⟩ = some (.int .i64 per) ∧ w8.drew.cell? ⟨w6.heap.size, 1, none⟩ = some (.slice A6 n c6)) := ⟨⟨y0, y1⟩, z0, z1⟩
    have BD := (Below.refl w8.heap.size w8).drew
    have BE := B8.out.drew
    have E1 := C2.out w8.drew BE
    have SD : SlX payR w8.drew A6 n l := S8.out.on BD
    have hRo := HR.out
    have hSo := HSL.out
    have HTo := HT.out
    have HSo := HS.out
    have hn9 : n ≤ 90000 := by omega
    go_cut [2] (fun v wx => v = .bool true ∧ Hid (Below w1.heap.size w1 wx))
    case first =>
      go_region_held3 (fun w' => (w'.cell? ⟨w.heap.size, 0, none⟩ = some (.int .i64 per) ∧ w'.cell? ⟨w.heap.size, 1, none⟩ = some (.slice A n c)) ∧ (w'.cell? ⟨w6.heap.size, 0, none⟩ = some (.int .i64 per) ∧ w'.cell? ⟨w6.heap.size, 1, none⟩ = some (.slice A6 n c6)))
        (first
          | with_reducible exact Z0
          | with_reducible exact Z1
          | with_reducible exact Z2
          | with_reducible exact Z3
          | with_reducible exact Z4
          | with_reducible exact Z5
          | with_reducible exact Z6)
        (first
          | (go_at_call 12; (with_reducible refine E1.mono ?_); rintro _ w11 ⟨A11, c11, rfl, S11, b11⟩; have Z1 := keepB4 b11 Z0; have G1 := below_step BE b11; have E2 := text_n (per := per) (c := c11) S11 hn9 hRo hSo; have R1 := SD.on b11)
          | (go_at_call 15; (with_reducible refine E2.mono ?_); rintro _ w12 ⟨rfl, b12⟩; have Z2 := keepB4 b12 Z1; have G2 := below_step G1 b12; have R2 := R1.on b12; have E3 := bref_n (per := per) (c := c6) R2 hn9)
          | (go_at_call 12; (with_reducible refine E3.mono ?_); rintro _ w13 ⟨A13, c13, rfl, S13, b13⟩; have Z3 := keepB4 b13 Z2; have G3 := below_step G2 b13; have E4 := bref_n (per := per) (c := c) (HSo.on G3) hn9)
          | (go_at_call 12; (with_reducible refine E4.mono ?_); rintro _ w14 ⟨A14, c14, rfl, S14, b14⟩; have Z4 := keepB4 b14 Z3; have G4 := below_step G3 b14; have E5 := same_y (per := per) (per' := per) (c := c13) (c' := c14) (S13.on b14) S14 hn9 ⟨rfl, rfl⟩)
          | (go_at_call 16; (with_reducible refine E5.mono ?_); rintro _ w15 ⟨rfl, b15⟩; have Z5 := keepB4 b15 Z4; have G5 := below_step G4 b15; have T5 := HTo.on G5; have E6 := aw22_any w15 T5.1 T5.2)
          | (go_at_call 9; (with_reducible refine E6.mono ?_); rintro _ w16 ⟨rfl, b16⟩; have Z6 := keepB4 b16 Z5; have G6 := below_step G5 b16))
      all_goals
        have G7 := Lib.hid G6
        go_wp2_with fail
        go_meet
        exact ⟨rfl, G7⟩
    case rest =>
      obtain ⟨rfl, I3⟩ := hcut
      have B9 := Lib.hid (below_step B1.out I3.out)
      go_wp2_with fail
      exact FIN.out _ B9.out
  · have CW := Lib.hid (kbwrite_no (per := per) (c := c) HS.out hn hR)
    have HR := Lib.hid hR
    have CG : Hid (∀ wz, Below w1.heap.size w1 wz → Calls Tryd.prog 13 #[.agg #[.int .i64 per, .slice A n c]] wz (FlagB false wz)) := Lib.hid (fun wz hb => by
      have h := kright_any (per := per) (c := c) (HS.out.on hb) hn
      rw [decide_eq_false HR.out] at h; exact h)
    clear hR hln h6
    go_enter Tryd.func3, Tryd.ntmps3
    go_upto_region 1 with fail
    rw [HW1.out]
    go_wp2_with (go_at_call 10; refine CW.out.mono ?_)
    intro e2 w2 h2
    obtain ⟨rfl, b2⟩ := h2
    have D2 := Lib.hid (C2.out w2 b2)
    have B2 := Lib.hid b2
    obtain ⟨y0, y1⟩ := c2 (HXB.out.on b2)
    have hsy := (HXB.out.on b2).1
    clear b2 CW x0 x1 hsx
    go_wp2_with (go_at_call 12; refine D2.out.mono ?_)
    intro e3 w3 h3
    obtain ⟨A3, c3, rfl, S3, b3'⟩ := h3
    have D3 := Lib.hid (right_no (per := per) (c := c3) S3 (by omega) HR.out)
    have B3 := Lib.hid (below_step B2.out b3')
    clear S3 b3' D2 y0 y1 hsy B2
    go_wp2_with (go_at_call 11; refine D3.out.mono ?_)
    intro e4 w4 h4
    obtain ⟨rfl, b4⟩ := h4
    have b14 := below_step B3.out b4
    have D4 := Lib.hid (CG.out w4 b14)
    have B4 := Lib.hid b14
    obtain ⟨y0, y1⟩ := c2 (HXB.out.on b14)
    have hsy := (HXB.out.on b14).1
    clear b4 b14 D3 B3
    go_wp2_with (go_at_call 13; refine D4.out.mono ?_)
    intro e5 w5 h5
    obtain ⟨rfl, b5⟩ := h5
    have b15 := below_step B4.out b5
    have D5 := Lib.hid (aw22_any w5 (HT.out.on b15).1 (HT.out.on b15).2)
    have B5 := Lib.hid b15
    clear b5 b15 D4 y0 y1 hsy CG B4
    go_wp2_with (go_at_call 9; refine D5.out.mono ?_)
    intro e6 w6 h6
    obtain ⟨rfl, b6⟩ := h6
    have B6 := Lib.hid (below_step B1.out (below_step B5.out b6))
    clear b6 D5
    go_wp2_with fail
    exact FIN.out _ B6.out
end Go.Proofs.YtbnnmakmgleikaaDoor
