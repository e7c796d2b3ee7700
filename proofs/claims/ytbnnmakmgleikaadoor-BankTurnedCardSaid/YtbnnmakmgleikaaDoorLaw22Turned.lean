/-
  BankTurned: the text of a file of which one byte is turned, or left off, is none, or another one's.
-/
import Derived.Test.YtbnnmakmgleikaaDoorLaw22Kit
import Derived.Test.YtbnnmakmgleikaaDoorLaw22Writes
import Derived.Test.YtbnnmakmgleikaaDoorBkLawMath
import Derived.Laws.BitsAllLaws
import Derived.Deep.RegionHeld3
import Derived.Deep.DeepCutAuto
set_option linter.unusedVariables false
set_option linter.unusedSimpArgs false
namespace Go.Proofs.YtbnnmakmgleikaaDoor
open Go.RowKit
open PBank (Pay)

theorem xor_byte {a b : Int} (h1 : 0 ≤ a) (h2 : a < 256) (h3 : 0 ≤ b) (h4 : b < 256) : ∃ x : UInt8, bits .xor .u8 a b = (x.toNat : Int) := by
  have hl : a.toNat ^^^ b.toNat < 2 ^ 8 := Nat.xor_lt_two_pow (by omega) (by omega)
  refine ⟨UInt8.ofNat (a.toNat ^^^ b.toNat), ?_⟩
  rw [u8_xor a b h1 h2 h3 h4, UInt8.toNat_ofNat', Nat.mod_eq_of_lt hl]
theorem conv_byte8 (W : World) (H : Nat) (x : UInt8) (h : W.cell? ⟨H, 0, none⟩ = some (.int .u8 (x.toNat : Int))) : (convert 41 9 (.slice (some ⟨H, 0, none⟩) 1 1)).run Tryd.prog W = .ok (.string ⟨[x].toArray⟩) W := by
  refine run_convert_bytes_back _ 41 9 5 ⟨H, 0, none⟩ 1 [x] Tryd.underlying41 Tryd.underlying5 Tryd.underlying9 fun j hj => ?_
  rcases j with _ | j
  · exact h
  · simp at hj
set_option maxRecDepth 100000 in
set_option maxHeartbeats 12800000 in
theorem bturned_walk {per : Int} {A : Option Addr} {n c : Nat} {l : List Pay} {z1 z2 : Int} {off : Bool} (w : World) (ht : TabE w) (hS : SlX payR w A n l) (hn : (n : Int) ≤ 9223372036854775807)
    (g1 : (Lit.int .u16 z1).wf = true) (g2 : (Lit.int .u8 z2).wf = true) :
    Calls Tryd.prog 5 #[.agg #[.int .i64 per, .slice A n c], .int .u16 z1, .int .u8 z2, .bool off] w (FlagB true w) := by
  obtain ⟨Q, hQ⟩ : ∃ Q, FlagB true w = Q := ⟨_, rfl⟩
  rw [hQ]
  have FIN : Hid (∀ (w' : World), Below w.heap.size w w' → Q (.returned (.bool true)) w') := Lib.hid (fun w' a => by rw [← hQ]; exact ⟨rfl, a⟩)
  obtain ⟨w1, hw1, XB, b1⟩ : ∃ w1, w.alloc (.cells #[.int .i64 per, .slice A n c] 24) = w1 ∧ Box w1 w.heap.size [.int .i64 per, .slice A n c] ∧ Below w.heap.size w w1 := ⟨_, rfl, Box.new _ _ [.int .i64 per, .slice A n c], (Below.refl _ _).alloc (Nat.le_refl _) _⟩
  obtain ⟨x0, x1⟩ := c2 XB
  have hsx := XB.1
  have HS := Lib.hid (hS.on b1); have HXB := Lib.hid XB; have HT := Lib.hid (ht.on b1)
  have B1 := Lib.hid b1; have HW1 := Lib.hid hw1
  have hln : l.length = n := hS.1
  have AWA : Hid (∀ wz, Below w1.heap.size w1 wz → Calls Tryd.prog 9 #[] wz (FlagB true wz)) := Lib.hid (fun wz hb => aw22_any wz (HT.out.on hb).1 (HT.out.on hb).2)
  obtain ⟨u0, u1⟩ := u16_bounds g1
  obtain ⟨v0, v1⟩ := u8_bounds g2
  clear hQ XB b1 hw1 hS ht g1 g2
  by_cases hR : PBank.Rt per l
  · have hsz := PBank.txt_len hR
    have CW := Lib.hid (kbwrite_yes (per := per) (c := c) HS.out hn HT.out.1 hR)
    have HR := Lib.hid hR
    obtain ⟨s, hs⟩ : ∃ s : ByteArray, (⟨(PBank.txt per l).toArray⟩ : ByteArray) = s := ⟨_, rfl⟩
    have hsl : s.data.toList = PBank.txt per l := by rw [← hs]
    have hss : s.size = 33 + 28 * n := by rw [← hln, ← hsz, ← hsl]; simp
    have CW2 : Hid (Calls Tryd.prog 10 #[.agg #[.int .i64 per, .slice A n c]] w1 (WrS s w1)) := Lib.hid (by rw [← hs]; exact CW.out)
    have HSL := Lib.hid hsl; have HLN := Lib.hid hln; have HSS := Lib.hid hss
    have hse : (s.toList == ([] : List UInt8)) = false := by
      rw [beq_eq_false_iff_ne, ByteArray.toList_eq]
      intro h
      have h2 := congrArg List.length h
      have h3 : s.data.toList.length = s.size := by simp
      rw [h3, List.length_nil] at h2
      omega
    clear hR CW hs hsl hln hsz
    by_cases h6 : 100 < n
    · have gl : (100 : Int) < (n : Int) := by omega
      clear hss
      go_enter Tryd.func5, Tryd.ntmps5
      go_upto_region 1 with fail
      rw [HW1.out]
      go_wp2_with (go_at_call 10; refine CW2.out.mono ?_)
      intro e2 w2 h2
      obtain ⟨rfl, b2⟩ := h2
      have AW := Lib.hid (AWA.out w2 b2)
      have B2 := Lib.hid (below_step B1.out b2)
      obtain ⟨y0, y1⟩ := c2 (HXB.out.on b2)
      have hsy := (HXB.out.on b2).1
      clear b2 CW2 x0 x1 hsx
      go_wp2_with (go_at_call 9; refine AW.out.mono ?_)
      intro e3 w3 h3
      obtain ⟨rfl, b3'⟩ := h3
      have B3 := Lib.hid (below_step B2.out b3')
      clear b3' AW
      go_wp2_with fail
      exact FIN.out _ B3.out
    have gl : ¬ (100 : Int) < (n : Int) := by omega
    have hn1 : n ≤ 100 := by omega
    obtain ⟨q, rfl⟩ : ∃ q : Nat, z1 = q := ⟨z1.toNat, by omega⟩
    obtain ⟨m, hm⟩ : ∃ m, q % s.size = m := ⟨_, rfl⟩
    have hml : m < s.size := by rw [← hm]; exact Nat.mod_lt _ (by omega)
    have hmz : ((q : Int)).tmod (s.size : Int) = (m : Int) := by rw [← hm]; rfl
    obtain ⟨x, hx⟩ := xor_byte (a := ((s[m]'hml).toNat : Int)) (b := z2) (by omega) (by have := (s[m]'hml).toNat_lt; omega) v0 (by omega)
    have hs0 : ¬ (s.size : Int) = 0 := by omega
    have hsb : (s.size : Int) ≤ 2833 := by omega
    have i0 : (0 : Int) ≤ (m : Int) := by omega
    have i1 : (m : Int) ≤ (s.size : Int) := by omega
    have i2 : (m : Int) < (s.size : Int) := by omega
    have i3 : (m : Int) + 1 ≤ (s.size : Int) := by omega
    have i4 : (0 : Int) ≤ (m : Int) + 1 := by omega
    have hsM : s.size ≤ 2833 := by omega
    clear hm hss h6
    go_enter Tryd.func5, Tryd.ntmps5
    go_upto_region 1 with fail
    rw [HW1.out]
    go_wp2_with (go_at_call 10; refine CW2.out.mono ?_)
    intro e2 w2 h2
    obtain ⟨rfl, b2⟩ := h2
    have B2 := Lib.hid b2
    obtain ⟨y0, y1⟩ := c2 (HXB.out.on b2)
    have hsy := (HXB.out.on b2).1
    clear b2 CW2 x0 x1 hsx
    cases off with
    | false =>
      go_upto_region 5 with fail
      have hxv : ∀ (wz : World) (H : Nat), wz.cell? ⟨H, 0, none⟩ = some (.int .u8 (x.toNat : Int)) → (convert 41 9 (.slice (some ⟨H, 0, none⟩) 1 1)).run Tryd.prog wz = .ok (.string ⟨[x].toArray⟩) wz := fun wz H h => conv_byte8 wz H x h
      go_cut [12] (fun t wx => ∃ tb : ByteArray, t = .string tb ∧ tb.size = s.size ∧ Hid (Below w1.heap.size w1 wx))
      case first =>
        go_region
        have BB := Lib.hid ((B2.out.alloc B2.out.size (.cells #[.int .u8 (x.toNat : Int)] 5)).drew)
        go_wp2_with fail
        go_meet
        refine ⟨_, rfl, ?_, BB⟩
        simp only [ByteArray.size_append, ByteArray.size_extract]
        have : (⟨[x].toArray⟩ : ByteArray).size = 1 := rfl
        simp only [List.toArray] at this ⊢
        omega
      case rest =>
        obtain ⟨tb, rfl, htz, I3⟩ := hcut
        have b13 := I3.out
        obtain ⟨tp, htp⟩ : ∃ z, PBank.gPer tb.data.toList = z := ⟨_, rfl⟩
        obtain ⟨tl, htl⟩ : ∃ z, PBank.gPay tb.data.toList = z := ⟨_, rfl⟩
        have HIF := Lib.hid (PBank.isTx_iff htp htl)
        have HTZ := Lib.hid htz
        clear htp htl htz
        have hT3 := HT.out.on b13
        have C2 : Hid (∀ wz, Below w1.heap.size w1 wz → Calls Tryd.prog 12 #[.agg #[.int .i64 per, .slice A n c]] wz (RfN per l n wz)) := Lib.hid (fun wz hb => bref_n (HS.out.on hb) (by omega))
        by_cases hX : PBank.isTx tb.data.toList
        · obtain ⟨hR2, hT2⟩ := HIF.out.1 hX
          obtain ⟨k, hk⟩ : ∃ k, tl.length = k := ⟨_, rfl⟩
          have hk5 : k ≤ 4999 := by rw [← hk]; exact hR2.few
          have CR := Lib.hid (read_yes hR2 hT2.symm hk wc hT3.2 hT3.1)
          have HSM : Hid (tb = s ↔ (tp = per ∧ tl = l)) := Lib.hid ⟨fun e => by
              subst e
              exact PBank.txt_inj hR2 HR.out (hT2.trans HSL.out),
            fun e => by
              obtain ⟨rfl, rfl⟩ := e
              exact (bytes_of hT2.symm).trans (bytes_of HSL.out).symm⟩
          obtain ⟨y0, y1⟩ := c2 (HXB.out.on b13)
          have hsy := (HXB.out.on b13).1
          have BC := Lib.hid b13
          clear hX hR2 hT2 hk b13 hT3
          go_wp2_with (go_at_call 14; refine CR.out.mono ?_)
          intro e6 w6 h6
          obtain ⟨A6, c6, rfl, S6, b6⟩ := h6
          obtain ⟨w7, w8, hw7, hw8, X7, X8, b68⟩ := file_box w6 24 tp A6 k c6
          obtain ⟨x0, x1⟩ := c2 X7
          obtain ⟨xf0, xf1⟩ := f2 X7
          have hsx := X7.1
          obtain ⟨q0, q1⟩ := c2 X8
          have hsq := X8.1
          have b18 := below_step BC.out (below_step b6 b68)
          obtain ⟨y0, y1⟩ := c2 (HXB.out.on b18)
          have hsy := (HXB.out.on b18).1
          have B8 := Lib.hid b18
          have S8 := Lib.hid (S6.on b68)
          have HW8 := Lib.hid hw8
          clear b6 S6 X7 X8 b68 hw8 CR b18 BC
          go_upto_region 9 with fail
          rw [HW8.out]
          clear HW8 hw7 x0 x1 xf0 xf1 hsx
          have BD := (Below.refl w8.heap.size w8).drew
          have BE := B8.out.drew
          have SD : SlX payR w8.drew A6 k tl := S8.out.on BD
          have hSo := HS.out
          have hTo := HT.out
          have CO := C2.out
          have hn9 : n ≤ 90000 := by omega
          have hk9 : k ≤ 90000 := by omega
          have E1 := bref_n (per := tp) (c := c6) SD hk9
          by_cases hE : tb = s
          · have hb : (tb.toList == s.toList) = true := by rw [hE]; simp
            have HSE := Lib.hid (HSM.out.1 hE)
            clear hE
            go_upto_region 10 with fail
            have Z0 : (w8.drew.cell? ⟨w.heap.size, 0, none⟩ = some (.int .i64 per) ∧ w8.drew.cell? ⟨w.heap.size, 1, none⟩ = some (.slice A n c)) ∧ (w8.drew.cell? ⟨w6.heap.size, 0, none⟩ = some (.int .i64 tp) ∧ w8.drew.cell? ⟨w6.heap.size, 1, none⟩ = some (.slice A6 k c6)) := ⟨⟨y0, y1⟩, q0, q1⟩
            go_region_held3 (fun w' => (w'.cell? ⟨w.heap.size, 0, none⟩ = some (.int .i64 per) ∧ w'.cell? ⟨w.heap.size, 1, none⟩ = some (.slice A n c)) ∧ (w'.cell? ⟨w6.heap.size, 0, none⟩ = some (.int .i64 tp) ∧ w'.cell? ⟨w6.heap.size, 1, none⟩ = some (.slice A6 k c6)))
              (first
                | with_reducible exact Z0
                | with_reducible exact Z1
                | with_reducible exact Z2
                | with_reducible exact Z3
                | with_reducible exact Z4)
              (first
                | (go_at_call 12; (with_reducible refine E1.mono ?_); rintro _ w11 ⟨A11, c11, rfl, S11, b11⟩; have Z1 := keepB4 b11 Z0; have G1 := below_step BE b11; have E2 := CO w11 G1)
                | (go_at_call 12; (with_reducible refine E2.mono ?_); rintro _ w12 ⟨A12, c12, rfl, S12, b12⟩; have Z2 := keepB4 b12 Z1; have G2 := below_step G1 b12; have E3 := same_y (per := tp) (per' := per) (c := c11) (c' := c12) (S11.on b12) S12 hk9 HSE.out)
                | (go_at_call 16; (with_reducible refine E3.mono ?_); rintro _ w13 ⟨rfl, b13⟩; have Z3 := keepB4 b13 Z2; have G3 := below_step G2 b13; have T3 := hTo.on G3; have E4 := aw22_any w13 T3.1 T3.2)
                | (go_at_call 9; (with_reducible refine E4.mono ?_); rintro _ w14 ⟨rfl, b14⟩; have Z4 := keepB4 b14 Z3; have G4 := below_step G3 b14))
            all_goals
              have G7 := Lib.hid (below_step B1.out G4)
              go_wp2_with fail
              exact FIN.out _ G7.out
          · have hb : (tb.toList == s.toList) = false := bytes_ne (u := tb) (s := s) (l := tb.data.toList) rfl (fun e => hE ((bytes_of e).trans rfl))
            have hne2 : ¬ (tp = per ∧ tl = l) := fun e => hE (HSM.out.2 e)
            clear hE
            go_upto_region 11 with fail
            have Z0 : (w8.drew.cell? ⟨w.heap.size, 0, none⟩ = some (.int .i64 per) ∧ w8.drew.cell? ⟨w.heap.size, 1, none⟩ = some (.slice A n c)) ∧ (w8.drew.cell? ⟨w6.heap.size, 0, none⟩ = some (.int .i64 tp) ∧ w8.drew.cell? ⟨w6.heap.size, 1, none⟩ = some (.slice A6 k c6)) := ⟨⟨y0, y1⟩, q0, q1⟩
            go_region_held3 (fun w' => (w'.cell? ⟨w.heap.size, 0, none⟩ = some (.int .i64 per) ∧ w'.cell? ⟨w.heap.size, 1, none⟩ = some (.slice A n c)) ∧ (w'.cell? ⟨w6.heap.size, 0, none⟩ = some (.int .i64 tp) ∧ w'.cell? ⟨w6.heap.size, 1, none⟩ = some (.slice A6 k c6)))
              (first
                | with_reducible exact Z0
                | with_reducible exact Z1
                | with_reducible exact Z2
                | with_reducible exact Z3
                | with_reducible exact Z4)
              (first
                | (go_at_call 12; (with_reducible refine E1.mono ?_); rintro _ w11 ⟨A11, c11, rfl, S11, b11⟩; have Z1 := keepB4 b11 Z0; have G1 := below_step BE b11; have E2 := CO w11 G1)
                | (go_at_call 12; (with_reducible refine E2.mono ?_); rintro _ w12 ⟨A12, c12, rfl, S12, b12⟩; have Z2 := keepB4 b12 Z1; have G2 := below_step G1 b12; have E3 := same_n (per := tp) (per' := per) (c := c11) (c' := c12) (S11.on b12) S12 hk9 hne2)
                | (go_at_call 16; (with_reducible refine E3.mono ?_); rintro _ w13 ⟨rfl, b13⟩; have Z3 := keepB4 b13 Z2; have G3 := below_step G2 b13; have T3 := hTo.on G3; have E4 := aw22_any w13 T3.1 T3.2)
                | (go_at_call 9; (with_reducible refine E4.mono ?_); rintro _ w14 ⟨rfl, b14⟩; have Z4 := keepB4 b14 Z3; have G4 := below_step G3 b14))
            all_goals
              have G7 := Lib.hid (below_step B1.out G4)
              go_wp2_with fail
              exact FIN.out _ G7.out
        · have CR := Lib.hid (read_no hX (by have := HTZ.out; have := HSS.out; omega) wc hT3.2 hT3.1)
          have hne : ¬ tb = s := fun e => hX (by rw [e, HSL.out]; exact PBank.isTx_txt HR.out)
          have hb : (tb.toList == s.toList) = false := bytes_ne (u := tb) (s := s) (l := tb.data.toList) rfl (fun e => hne ((bytes_of e).trans rfl))
          obtain ⟨y0, y1⟩ := c2 (HXB.out.on b13)
          have hsy := (HXB.out.on b13).1
          have BC := Lib.hid b13
          clear hX hne b13 hT3
          go_wp2_with (go_at_call 14; refine CR.out.mono ?_)
          intro e6 w6 h6
          obtain ⟨rfl, b6⟩ := h6
          obtain ⟨w7, w8, hw7, hw8, X7, X8, b68⟩ := file_box w6 24 0 none 0 0
          obtain ⟨x0, x1⟩ := c2 X7
          obtain ⟨xf0, xf1⟩ := f2 X7
          have hsx := X7.1
          have b18 := below_step BC.out (below_step b6 b68)
          have B8 := Lib.hid b18
          have HW8 := Lib.hid hw8
          have CA := AWA.out w8.drew b18.drew
          clear b6 X7 X8 b68 hw8 CR b18 BC y0 y1 hsy
          go_upto_region 9 with fail
          rw [HW8.out]
          clear HW8 hw7 x0 x1 xf0 xf1 hsx
          go_upto_region 11 with fail
          refine wp_region_held_drew (S := fun _ => True) (by kernel_rfl) trivial (fun hHeld => ?_)
          refine wpAnyH_take (i := 0) (v := .int .i64 2) rfl (by kernel_rfl) (by kernel_rfl) (by kernel_rfl) (fun _ _ _ h => h) (Or.inl ⟨by rfl, fun w hSw => by go_simp⟩) hHeld ?_
          try simp only [Act.put, List.getElem_toArray, List.getElem_cons_succ, List.getElem_cons_zero, List.setIfInBounds_toArray, List.set_cons_zero, List.set_cons_succ]
          refine wpAnyH_take (i := 1) (v := .bool true) rfl (by kernel_rfl) (by kernel_rfl) (by kernel_rfl) (fun _ _ _ h => h) (Or.inl ⟨by rfl, fun w hSw => by go_simp⟩) hHeld ?_
          try simp only [Act.put, List.getElem_toArray, List.getElem_cons_succ, List.getElem_cons_zero, List.setIfInBounds_toArray, List.set_cons_zero, List.set_cons_succ]
          refine wpAnyH_take (i := 2) (v := .bool true) rfl (by kernel_rfl) (by kernel_rfl) (by kernel_rfl) (fun _ _ _ h => h) (Or.inl ⟨by rfl, fun w hSw => by go_simp⟩) hHeld ?_
          try simp only [Act.put, List.getElem_toArray, List.getElem_cons_succ, List.getElem_cons_zero, List.setIfInBounds_toArray, List.set_cons_zero, List.set_cons_succ]
          refine wpAnyH_take (i := 3) (v := undef) rfl (by kernel_rfl) (by kernel_rfl) (by kernel_rfl) (fun _ _ _ h => h) (Or.inr ⟨by rfl, rfl⟩) hHeld ?_
          try simp only [Act.put, List.getElem_toArray, List.getElem_cons_succ, List.getElem_cons_zero, List.setIfInBounds_toArray, List.set_cons_zero, List.set_cons_succ]
          refine wpAnyH_take (i := 4) (v := undef) rfl (by kernel_rfl) (by kernel_rfl) (by kernel_rfl) (fun _ _ _ h => h) (Or.inr ⟨by rfl, rfl⟩) hHeld ?_
          try simp only [Act.put, List.getElem_toArray, List.getElem_cons_succ, List.getElem_cons_zero, List.setIfInBounds_toArray, List.set_cons_zero, List.set_cons_succ]
          refine wpAnyH_take (i := 5) (v := undef) rfl (by kernel_rfl) (by kernel_rfl) (by kernel_rfl) (fun _ _ _ h => h) (Or.inr ⟨by rfl, rfl⟩) hHeld ?_
          try simp only [Act.put, List.getElem_toArray, List.getElem_cons_succ, List.getElem_cons_zero, List.setIfInBounds_toArray, List.set_cons_zero, List.set_cons_succ]
          refine wpAnyH_take (i := 6) (v := undef) rfl (by kernel_rfl) (by kernel_rfl) (by kernel_rfl) (fun _ _ _ h => h) (Or.inr ⟨by rfl, rfl⟩) hHeld ?_
          try simp only [Act.put, List.getElem_toArray, List.getElem_cons_succ, List.getElem_cons_zero, List.setIfInBounds_toArray, List.set_cons_zero, List.set_cons_succ]
          refine wpAnyH_take (i := 7) (v := undef) rfl (by kernel_rfl) (by kernel_rfl) (by kernel_rfl) (fun _ _ _ h => h) (Or.inr ⟨by rfl, rfl⟩) hHeld ?_
          try simp only [Act.put, List.getElem_toArray, List.getElem_cons_succ, List.getElem_cons_zero, List.setIfInBounds_toArray, List.set_cons_zero, List.set_cons_succ]
          refine wpAnyH_take (i := 8) (v := undef) rfl (by kernel_rfl) (by kernel_rfl) (by kernel_rfl) (fun _ _ _ h => h) (Or.inr ⟨by rfl, rfl⟩) hHeld ?_
          try simp only [Act.put, List.getElem_toArray, List.getElem_cons_succ, List.getElem_cons_zero, List.setIfInBounds_toArray, List.set_cons_zero, List.set_cons_succ]
          refine wpAnyH_take (i := 9) (v := undef) rfl (by kernel_rfl) (by kernel_rfl) (by kernel_rfl) (fun _ _ _ h => h) (Or.inr ⟨by rfl, rfl⟩) hHeld ?_
          try simp only [Act.put, List.getElem_toArray, List.getElem_cons_succ, List.getElem_cons_zero, List.setIfInBounds_toArray, List.set_cons_zero, List.set_cons_succ]
          refine wpAnyH_take (i := 10) (v := undef) rfl (by kernel_rfl) (by kernel_rfl) (by kernel_rfl) (fun _ _ _ h => h) (Or.inr ⟨by rfl, rfl⟩) hHeld ?_
          try simp only [Act.put, List.getElem_toArray, List.getElem_cons_succ, List.getElem_cons_zero, List.setIfInBounds_toArray, List.set_cons_zero, List.set_cons_succ]
          refine wpAnyH_take (i := 11) (v := undef) rfl (by kernel_rfl) (by kernel_rfl) (by kernel_rfl) (fun _ _ _ h => h) (Or.inr ⟨by rfl, rfl⟩) hHeld ?_
          try simp only [Act.put, List.getElem_toArray, List.getElem_cons_succ, List.getElem_cons_zero, List.setIfInBounds_toArray, List.set_cons_zero, List.set_cons_succ]
          refine wpAnyH_take (i := 12) (v := undef) rfl (by kernel_rfl) (by kernel_rfl) (by kernel_rfl) (fun _ _ _ h => h) (Or.inr ⟨by rfl, rfl⟩) hHeld ?_
          try simp only [Act.put, List.getElem_toArray, List.getElem_cons_succ, List.getElem_cons_zero, List.setIfInBounds_toArray, List.set_cons_zero, List.set_cons_succ]
          refine wpAnyH_take (i := 13) (v := undef) rfl (by kernel_rfl) (by kernel_rfl) (by kernel_rfl) (fun _ _ _ h => h) (Or.inr ⟨by rfl, rfl⟩) hHeld ?_
          try simp only [Act.put, List.getElem_toArray, List.getElem_cons_succ, List.getElem_cons_zero, List.setIfInBounds_toArray, List.set_cons_zero, List.set_cons_succ]
          refine wpAnyH_take (i := 14) (v := undef) rfl (by kernel_rfl) (by kernel_rfl) (by kernel_rfl) (fun _ _ _ h => h) (Or.inr ⟨by rfl, rfl⟩) hHeld ?_
          try simp only [Act.put, List.getElem_toArray, List.getElem_cons_succ, List.getElem_cons_zero, List.setIfInBounds_toArray, List.set_cons_zero, List.set_cons_succ]
          refine wpAnyH_take (i := 15) (v := undef) rfl (by kernel_rfl) (by kernel_rfl) (by kernel_rfl) (fun _ _ _ h => h) (Or.inr ⟨by rfl, rfl⟩) hHeld ?_
          try simp only [Act.put, List.getElem_toArray, List.getElem_cons_succ, List.getElem_cons_zero, List.setIfInBounds_toArray, List.set_cons_zero, List.set_cons_succ]
          refine wpAnyH_take (i := 16) (v := undef) rfl (by kernel_rfl) (by kernel_rfl) (by kernel_rfl) (fun _ _ _ h => h) (Or.inr ⟨by rfl, rfl⟩) hHeld ?_
          try simp only [Act.put, List.getElem_toArray, List.getElem_cons_succ, List.getElem_cons_zero, List.setIfInBounds_toArray, List.set_cons_zero, List.set_cons_succ]
          refine wpAnyH_take (i := 17) (v := .bool true) rfl (by kernel_rfl) (by kernel_rfl) (by kernel_rfl) (fun _ _ _ h => h) (Or.inl ⟨by rfl, fun w hSw => by go_simp⟩) hHeld ?_
          try simp only [Act.put, List.getElem_toArray, List.getElem_cons_succ, List.getElem_cons_zero, List.setIfInBounds_toArray, List.set_cons_zero, List.set_cons_succ]
          refine wpAnyH_take (i := 18) (v := .bool true) rfl (by kernel_rfl) (by kernel_rfl) (by kernel_rfl) (fun _ _ _ h => h) (Or.inl ⟨by rfl, fun w hSw => by go_simp⟩) hHeld ?_
          try simp only [Act.put, List.getElem_toArray, List.getElem_cons_succ, List.getElem_cons_zero, List.setIfInBounds_toArray, List.set_cons_zero, List.set_cons_succ]
          refine wpAnyH_ready (rs := [19]) (by kernel_rfl) (by simp) ?_
          refine AllReadyH.cons rfl (fun K hK => ?_) AllReadyH.nil
          go_simp
          refine CA.mono ?_
          rintro _ w13 ⟨rfl, b13⟩
          refine hK.out _ _ trivial (fun hHeld => ?_)
          clear hK K
          try simp only [Act.put, List.getElem_toArray, List.getElem_cons_succ, List.getElem_cons_zero, List.setIfInBounds_toArray, List.set_cons_zero, List.set_cons_succ]
          refine wpAnyH_take (i := 20) (v := .bool true) rfl (by kernel_rfl) (by kernel_rfl) (by kernel_rfl) (fun _ _ _ h => h) (Or.inl ⟨by rfl, fun w hSw => by go_simp⟩) hHeld ?_
          try simp only [Act.put, List.getElem_toArray, List.getElem_cons_succ, List.getElem_cons_zero, List.setIfInBounds_toArray, List.set_cons_zero, List.set_cons_succ]
          refine wpAnyH_take (i := 21) (v := .bool true) rfl (by kernel_rfl) (by kernel_rfl) (by kernel_rfl) (fun _ _ _ h => h) (Or.inl ⟨by rfl, fun w hSw => by go_simp⟩) hHeld ?_
          try simp only [Act.put, List.getElem_toArray, List.getElem_cons_succ, List.getElem_cons_zero, List.setIfInBounds_toArray, List.set_cons_zero, List.set_cons_succ]
          refine wpAnyH_done (by kernel_rfl) ?_ _
          have G7 := Lib.hid (below_step B1.out (below_step B8.out.drew b13))
          clear hHeld
          go_wp2_with fail
          exact FIN.out _ G7.out
    | true =>
      go_upto_region 5 with fail
      have hxv : ∀ (wz : World) (H : Nat), wz.cell? ⟨H, 0, none⟩ = some (.int .u8 (x.toNat : Int)) → (convert 41 9 (.slice (some ⟨H, 0, none⟩) 1 1)).run Tryd.prog wz = .ok (.string ⟨[x].toArray⟩) wz := fun wz H h => conv_byte8 wz H x h
      go_cut [12] (fun t wx => ∃ tb : ByteArray, t = .string tb ∧ tb.size = s.size ∧ Hid (Below w1.heap.size w1 wx))
      case first =>
        go_region
        have BB := Lib.hid ((B2.out.alloc B2.out.size (.cells #[.int .u8 (x.toNat : Int)] 5)).drew)
        go_wp2_with fail
        go_meet
        refine ⟨_, rfl, ?_, BB⟩
        simp only [ByteArray.size_append, ByteArray.size_extract]
        have : (⟨[x].toArray⟩ : ByteArray).size = 1 := rfl
        simp only [List.toArray] at this ⊢
        omega
      case rest =>
        obtain ⟨ta, rfl, hta, I3a⟩ := hcut
        clear hta
        obtain ⟨y0, y1⟩ := c2 (HXB.out.on I3a.out)
        have hsy := (HXB.out.on I3a.out).1
        go_upto_region 7 with fail
        go_cut [12] (fun t wx => ∃ tb : ByteArray, t = .string tb ∧ tb.size + 1 = s.size ∧ Hid (Below w1.heap.size w1 wx))
        case first =>
          go_region
          have BB := Lib.hid (I3a.out.drew)
          go_wp2_with fail
          go_meet
          refine ⟨_, rfl, ?_, BB⟩
          simp only [ByteArray.size_append, ByteArray.size_extract]
          omega
        case rest =>
          obtain ⟨tb, rfl, htz, I3⟩ := hcut
          have b13 := I3.out
          obtain ⟨tp, htp⟩ : ∃ z, PBank.gPer tb.data.toList = z := ⟨_, rfl⟩
          obtain ⟨tl, htl⟩ : ∃ z, PBank.gPay tb.data.toList = z := ⟨_, rfl⟩
          have HIF := Lib.hid (PBank.isTx_iff htp htl)
          have HTZ := Lib.hid htz
          clear htp htl htz
          have hT3 := HT.out.on b13
          have C2 : Hid (∀ wz, Below w1.heap.size w1 wz → Calls Tryd.prog 12 #[.agg #[.int .i64 per, .slice A n c]] wz (RfN per l n wz)) := Lib.hid (fun wz hb => bref_n (HS.out.on hb) (by omega))
          by_cases hX : PBank.isTx tb.data.toList
          · have h1 := PBank.isTx_len hX
            have h2 : tb.data.toList.length = tb.size := by simp
            have h3 := HTZ.out
            have h4 := HSS.out
            omega
          · have CR := Lib.hid (read_no hX (by have := HTZ.out; have := HSS.out; omega) wc hT3.2 hT3.1)
            have hne : ¬ tb = s := fun e => hX (by rw [e, HSL.out]; exact PBank.isTx_txt HR.out)
            have hb : (tb.toList == s.toList) = false := bytes_ne (u := tb) (s := s) (l := tb.data.toList) rfl (fun e => hne ((bytes_of e).trans rfl))
            obtain ⟨y0, y1⟩ := c2 (HXB.out.on b13)
            have hsy := (HXB.out.on b13).1
            have BC := Lib.hid b13
            clear hX hne b13 hT3
            go_wp2_with (go_at_call 14; refine CR.out.mono ?_)
            intro e6 w6 h6
            obtain ⟨rfl, b6⟩ := h6
            obtain ⟨w7, w8, hw7, hw8, X7, X8, b68⟩ := file_box w6 24 0 none 0 0
            obtain ⟨x0, x1⟩ := c2 X7
            obtain ⟨xf0, xf1⟩ := f2 X7
            have hsx := X7.1
            have b18 := below_step BC.out (below_step b6 b68)
            have B8 := Lib.hid b18
            have HW8 := Lib.hid hw8
            have CA := AWA.out w8.drew b18.drew
            clear b6 X7 X8 b68 hw8 CR b18 BC y0 y1 hsy
            go_upto_region 9 with fail
            rw [HW8.out]
            clear HW8 hw7 x0 x1 xf0 xf1 hsx
            go_upto_region 11 with fail
            refine wp_region_held_drew (S := fun _ => True) (by kernel_rfl) trivial (fun hHeld => ?_)
            refine wpAnyH_take (i := 0) (v := .int .i64 2) rfl (by kernel_rfl) (by kernel_rfl) (by kernel_rfl) (fun _ _ _ h => h) (Or.inl ⟨by rfl, fun w hSw => by go_simp⟩) hHeld ?_
            try simp only [Act.put, List.getElem_toArray, List.getElem_cons_succ, List.getElem_cons_zero, List.setIfInBounds_toArray, List.set_cons_zero, List.set_cons_succ]
            refine wpAnyH_take (i := 1) (v := .bool true) rfl (by kernel_rfl) (by kernel_rfl) (by kernel_rfl) (fun _ _ _ h => h) (Or.inl ⟨by rfl, fun w hSw => by go_simp⟩) hHeld ?_
            try simp only [Act.put, List.getElem_toArray, List.getElem_cons_succ, List.getElem_cons_zero, List.setIfInBounds_toArray, List.set_cons_zero, List.set_cons_succ]
            refine wpAnyH_take (i := 2) (v := .bool true) rfl (by kernel_rfl) (by kernel_rfl) (by kernel_rfl) (fun _ _ _ h => h) (Or.inl ⟨by rfl, fun w hSw => by go_simp⟩) hHeld ?_
            try simp only [Act.put, List.getElem_toArray, List.getElem_cons_succ, List.getElem_cons_zero, List.setIfInBounds_toArray, List.set_cons_zero, List.set_cons_succ]
            refine wpAnyH_take (i := 3) (v := undef) rfl (by kernel_rfl) (by kernel_rfl) (by kernel_rfl) (fun _ _ _ h => h) (Or.inr ⟨by rfl, rfl⟩) hHeld ?_
            try simp only [Act.put, List.getElem_toArray, List.getElem_cons_succ, List.getElem_cons_zero, List.setIfInBounds_toArray, List.set_cons_zero, List.set_cons_succ]
            refine wpAnyH_take (i := 4) (v := undef) rfl (by kernel_rfl) (by kernel_rfl) (by kernel_rfl) (fun _ _ _ h => h) (Or.inr ⟨by rfl, rfl⟩) hHeld ?_
            try simp only [Act.put, List.getElem_toArray, List.getElem_cons_succ, List.getElem_cons_zero, List.setIfInBounds_toArray, List.set_cons_zero, List.set_cons_succ]
            refine wpAnyH_take (i := 5) (v := undef) rfl (by kernel_rfl) (by kernel_rfl) (by kernel_rfl) (fun _ _ _ h => h) (Or.inr ⟨by rfl, rfl⟩) hHeld ?_
            try simp only [Act.put, List.getElem_toArray, List.getElem_cons_succ, List.getElem_cons_zero, List.setIfInBounds_toArray, List.set_cons_zero, List.set_cons_succ]
            refine wpAnyH_take (i := 6) (v := undef) rfl (by kernel_rfl) (by kernel_rfl) (by kernel_rfl) (fun _ _ _ h => h) (Or.inr ⟨by rfl, rfl⟩) hHeld ?_
            try simp only [Act.put, List.getElem_toArray, List.getElem_cons_succ, List.getElem_cons_zero, List.setIfInBounds_toArray, List.set_cons_zero, List.set_cons_succ]
            refine wpAnyH_take (i := 7) (v := undef) rfl (by kernel_rfl) (by kernel_rfl) (by kernel_rfl) (fun _ _ _ h => h) (Or.inr ⟨by rfl, rfl⟩) hHeld ?_
            try simp only [Act.put, List.getElem_toArray, List.getElem_cons_succ, List.getElem_cons_zero, List.setIfInBounds_toArray, List.set_cons_zero, List.set_cons_succ]
            refine wpAnyH_take (i := 8) (v := undef) rfl (by kernel_rfl) (by kernel_rfl) (by kernel_rfl) (fun _ _ _ h => h) (Or.inr ⟨by rfl, rfl⟩) hHeld ?_
            try simp only [Act.put, List.getElem_toArray, List.getElem_cons_succ, List.getElem_cons_zero, List.setIfInBounds_toArray, List.set_cons_zero, List.set_cons_succ]
            refine wpAnyH_take (i := 9) (v := undef) rfl (by kernel_rfl) (by kernel_rfl) (by kernel_rfl) (fun _ _ _ h => h) (Or.inr ⟨by rfl, rfl⟩) hHeld ?_
            try simp only [Act.put, List.getElem_toArray, List.getElem_cons_succ, List.getElem_cons_zero, List.setIfInBounds_toArray, List.set_cons_zero, List.set_cons_succ]
            refine wpAnyH_take (i := 10) (v := undef) rfl (by kernel_rfl) (by kernel_rfl) (by kernel_rfl) (fun _ _ _ h => h) (Or.inr ⟨by rfl, rfl⟩) hHeld ?_
            try simp only [Act.put, List.getElem_toArray, List.getElem_cons_succ, List.getElem_cons_zero, List.setIfInBounds_toArray, List.set_cons_zero, List.set_cons_succ]
            refine wpAnyH_take (i := 11) (v := undef) rfl (by kernel_rfl) (by kernel_rfl) (by kernel_rfl) (fun _ _ _ h => h) (Or.inr ⟨by rfl, rfl⟩) hHeld ?_
            try simp only [Act.put, List.getElem_toArray, List.getElem_cons_succ, List.getElem_cons_zero, List.setIfInBounds_toArray, List.set_cons_zero, List.set_cons_succ]
            refine wpAnyH_take (i := 12) (v := undef) rfl (by kernel_rfl) (by kernel_rfl) (by kernel_rfl) (fun _ _ _ h => h) (Or.inr ⟨by rfl, rfl⟩) hHeld ?_
            try simp only [Act.put, List.getElem_toArray, List.getElem_cons_succ, List.getElem_cons_zero, List.setIfInBounds_toArray, List.set_cons_zero, List.set_cons_succ]
            refine wpAnyH_take (i := 13) (v := undef) rfl (by kernel_rfl) (by kernel_rfl) (by kernel_rfl) (fun _ _ _ h => h) (Or.inr ⟨by rfl, rfl⟩) hHeld ?_
            try simp only [Act.put, List.getElem_toArray, List.getElem_cons_succ, List.getElem_cons_zero, List.setIfInBounds_toArray, List.set_cons_zero, List.set_cons_succ]
            refine wpAnyH_take (i := 14) (v := undef) rfl (by kernel_rfl) (by kernel_rfl) (by kernel_rfl) (fun _ _ _ h => h) (Or.inr ⟨by rfl, rfl⟩) hHeld ?_
            try simp only [Act.put, List.getElem_toArray, List.getElem_cons_succ, List.getElem_cons_zero, List.setIfInBounds_toArray, List.set_cons_zero, List.set_cons_succ]
            refine wpAnyH_take (i := 15) (v := undef) rfl (by kernel_rfl) (by kernel_rfl) (by kernel_rfl) (fun _ _ _ h => h) (Or.inr ⟨by rfl, rfl⟩) hHeld ?_
            try simp only [Act.put, List.getElem_toArray, List.getElem_cons_succ, List.getElem_cons_zero, List.setIfInBounds_toArray, List.set_cons_zero, List.set_cons_succ]
            refine wpAnyH_take (i := 16) (v := undef) rfl (by kernel_rfl) (by kernel_rfl) (by kernel_rfl) (fun _ _ _ h => h) (Or.inr ⟨by rfl, rfl⟩) hHeld ?_
            try simp only [Act.put, List.getElem_toArray, List.getElem_cons_succ, List.getElem_cons_zero, List.setIfInBounds_toArray, List.set_cons_zero, List.set_cons_succ]
            refine wpAnyH_take (i := 17) (v := .bool true) rfl (by kernel_rfl) (by kernel_rfl) (by kernel_rfl) (fun _ _ _ h => h) (Or.inl ⟨by rfl, fun w hSw => by go_simp⟩) hHeld ?_
            try simp only [Act.put, List.getElem_toArray, List.getElem_cons_succ, List.getElem_cons_zero, List.setIfInBounds_toArray, List.set_cons_zero, List.set_cons_succ]
            refine wpAnyH_take (i := 18) (v := .bool true) rfl (by kernel_rfl) (by kernel_rfl) (by kernel_rfl) (fun _ _ _ h => h) (Or.inl ⟨by rfl, fun w hSw => by go_simp⟩) hHeld ?_
            try simp only [Act.put, List.getElem_toArray, List.getElem_cons_succ, List.getElem_cons_zero, List.setIfInBounds_toArray, List.set_cons_zero, List.set_cons_succ]
            refine wpAnyH_ready (rs := [19]) (by kernel_rfl) (by simp) ?_
            refine AllReadyH.cons rfl (fun K hK => ?_) AllReadyH.nil
            go_simp
            refine CA.mono ?_
            rintro _ w13 ⟨rfl, b13⟩
            refine hK.out _ _ trivial (fun hHeld => ?_)
            clear hK K
            try simp only [Act.put, List.getElem_toArray, List.getElem_cons_succ, List.getElem_cons_zero, List.setIfInBounds_toArray, List.set_cons_zero, List.set_cons_succ]
            refine wpAnyH_take (i := 20) (v := .bool true) rfl (by kernel_rfl) (by kernel_rfl) (by kernel_rfl) (fun _ _ _ h => h) (Or.inl ⟨by rfl, fun w hSw => by go_simp⟩) hHeld ?_
            try simp only [Act.put, List.getElem_toArray, List.getElem_cons_succ, List.getElem_cons_zero, List.setIfInBounds_toArray, List.set_cons_zero, List.set_cons_succ]
            refine wpAnyH_take (i := 21) (v := .bool true) rfl (by kernel_rfl) (by kernel_rfl) (by kernel_rfl) (fun _ _ _ h => h) (Or.inl ⟨by rfl, fun w hSw => by go_simp⟩) hHeld ?_
            try simp only [Act.put, List.getElem_toArray, List.getElem_cons_succ, List.getElem_cons_zero, List.setIfInBounds_toArray, List.set_cons_zero, List.set_cons_succ]
            refine wpAnyH_done (by kernel_rfl) ?_ _
            have G7 := Lib.hid (below_step B1.out (below_step B8.out.drew b13))
            clear hHeld
            go_wp2_with fail
            exact FIN.out _ G7.out
  · have CW := Lib.hid (kbwrite_no (per := per) (c := c) HS.out hn hR)
    clear hR hln
    by_cases h6 : (100 : Int) < (n : Int)
    all_goals
      go_enter Tryd.func5, Tryd.ntmps5
      go_upto_region 1 with fail
      rw [HW1.out]
      go_wp2_with (go_at_call 10; refine CW.out.mono ?_)
      intro e2 w2 h2
      obtain ⟨rfl, b2⟩ := h2
      have AW := Lib.hid (AWA.out w2 b2)
      have B2 := Lib.hid (below_step B1.out b2)
      obtain ⟨y0, y1⟩ := c2 (HXB.out.on b2)
      have hsy := (HXB.out.on b2).1
      clear b2 CW x0 x1 hsx
      go_wp2_with (go_at_call 9; refine AW.out.mono ?_)
      intro e3 w3 h3
      obtain ⟨rfl, b3'⟩ := h3
      have B3 := Lib.hid (below_step B2.out b3')
      clear b3' AW
      go_wp2_with fail
      exact FIN.out _ B3.out
end Go.Proofs.YtbnnmakmgleikaaDoor
