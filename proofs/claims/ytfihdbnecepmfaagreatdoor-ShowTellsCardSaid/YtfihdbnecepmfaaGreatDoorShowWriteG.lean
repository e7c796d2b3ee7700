/-
  What the landed show writes: the text of an expression, behind what the builder holds.
-/
import Derived.Test.YtfihdbnecepmfaaGreatDoorShowRowG
import Derived.Test.YtfihdbnecepmfaaGreatDoorRV

set_option linter.unusedVariables false
namespace Go.Proofs.YtfihdbnecepmfaaGreatDoor
open Go.RowKit
open PCheck (Xp)
open PShow (Pc)

/-- The text of what stands at a place. -/
def txP (E : List Xp) (p : Int) : List UInt8 := PShow.tx E p.toNat
/-- What is still to be written, the next one first. -/
structure Left (E : List Xp) (n : Nat) (all done : List UInt8) (K : List Pc) : Prop where
  text : done ++ PShow.pcsT (txP E) K = all
  at' : ∀ c ∈ K, c.2 = -1 ∨ (0 ≤ c.2 ∧ c.2 < (n : Int))
  few : PShow.cntP E K ≤ 10000
theorem Left.step0 {E : List Xp} {n : Nat} {all done s : List UInt8} {K : List Pc} (h : Left E n all done ((s, -1) :: K)) : Left E n all (done ++ s) K where
  text := by rw [List.append_assoc, ← PShow.step_tx0]; exact h.text
  at' := fun c hc => h.at' c (List.mem_cons_of_mem _ hc)
  few := by have := h.few; rw [PShow.step_cnt0] at this; omega
theorem Left.step {E : List Xp} (hE : PShow.Ahead E) {n : Nat} (hn : E.length = n) {all done s : List UInt8} {K : List Pc} {i : Nat} {x : Xp} (hx : E[i]? = some x) (h : Left E n all done ((s, (i : Int)) :: K)) : Left E n all (done ++ s) (PShow.pieces (PShow.rkAt E) x ++ K) where
  text := by rw [List.append_assoc, show txP E = fun p => PShow.tx E p.toNat from rfl, ← PShow.step_tx hE hx]; exact h.text
  at' := by
    intro c hc
    rcases List.mem_append.1 hc with hc | hc
    · rcases PShow.pieces_at hc with e | ⟨f, hf, hm⟩
      · exact .inl e
      · obtain ⟨h1, h2⟩ := hE i x f hx hf _ hm
        have := (List.getElem?_eq_some_iff.1 hx).1
        exact .inr ⟨h1, by omega⟩
    · exact h.at' c (List.mem_cons_of_mem _ hc)
  few := by have := h.few; rw [PShow.step_cnt hE hx] at this; omega
theorem Left.len {E : List Xp} {n : Nat} {all done s : List UInt8} {p : Int} {K : List Pc} (h : Left E n all done ((s, p) :: K)) : done.length + s.length ≤ all.length := by
  rw [← h.text, PShow.pcsT_cons]
  unfold PShow.pcT
  simp only [List.length_append]
  omega
theorem places_prt {E : List Xp} (hE : PShow.Ahead E) {n i : Nat} (hn : E.length = n) {x : Xp} (hx : E[i]? = some x) : ∀ p ∈ (PShow.places x).take (prt x.op).length, 0 ≤ p ∧ p < (n : Int) := by
  unfold prt
  cases hf : PShow.formOf x.op with
  | none => intro p hp; cases hp
  | some f =>
    intro p hp
    obtain ⟨h1, h2⟩ := hE i x f hx hf p hp
    have := (List.getElem?_eq_some_iff.1 hx).1
    exact ⟨h1, by omega⟩
/-- What is written behind what the builder holds. -/
def WrAns (B b : Nat) (all : List UInt8) (w : World) (e : Ending) (w' : World) : Prop := e = .returned (.tuple #[]) ∧ Bld B b all w' ∧ Below B w w'

set_option maxHeartbeats 6400000 in
set_option maxRecDepth 100000 in
theorem kwrite_any {w : World} {B b n c root : Nat} {A : Option Addr} {l : List UInt8} {E : List Xp} (hB : Bld B b l w) (hBw : B ≤ w.heap.size) (hK : ∀ w', Below B w w' → SlX xpR w' A n E ∧ Tab w') (hA : PShow.Ahead E)
    (hv : ∀ x ∈ E, -9223372036854775808 ≤ x.value ∧ x.value ≤ 9223372036854775807) (hr : root < n) (hc : PShow.cnt E root < 10000) (hlen : l.length + (PShow.tx E root).length ≤ 140737488355328) :
    Calls Tryz.prog 40 #[.pointer (some ⟨b, 0, none⟩), .slice A n c, .int .i64 (root : Nat)] w (WrAns B b (l ++ PShow.tx E root) w) := by
  obtain ⟨all, hall⟩ : ∃ all, l ++ PShow.tx E root = all := ⟨_, rfl⟩
  rw [hall]
  have hn : E.length = n := (hK w (Below.refl _ _)).1.1
  have hal : all.length ≤ 140737488355328 := by rw [← hall, List.length_append]; exact hlen
  have L0 : Left E n all l [([], (root : Int))] := by
    refine ⟨?_, ?_, ?_⟩
    · rw [← hall]; simp [PShow.pcsT, PShow.pcT, txP]
    · intro x hx; rw [List.mem_singleton.1 hx]; exact .inr ⟨by omega, by show (root : Int) < n; omega⟩
    · simp only [PShow.cntP, List.map_cons, List.map_nil, List.sum_cons, List.sum_nil]
      rw [if_neg (by omega)]
      simp only [Int.toNat_natCast]; omega
  obtain ⟨Q, hQ⟩ : ∃ Q, WrAns B b all w = Q := ⟨_, rfl⟩
  rw [hQ]
  have FIN : Hid (∀ w', Bld B b all w' → Below B w w' → Q (.returned (.tuple #[])) w') := Lib.hid (fun w' a b => by rw [← hQ]; exact ⟨rfl, a, b⟩)
  obtain ⟨H, hH⟩ : ∃ H, w.heap.size = H := ⟨_, rfl⟩
  have HL0 := Lib.hid L0; have HB := Lib.hid hB; have HK := Lib.hid hK; have HA := Lib.hid hA; have HV := Lib.hid hv; have HN := Lib.hid hn; have HAL := Lib.hid hal; have HBW := Lib.hid hBw
  have OW : Hid ((w.alloc (.cells #[.string { data := #[] }, .int .i64 (root : Nat)] 145)).ownsRow H 145 2 (.slice (some ⟨w.heap.size, 0, none⟩) 1 1) 1 (pcR.cells [([], (root : Int))])) := Lib.hid (own_built pcR w 145 [([], (root : Int))] (by omega) (show 1 ≤ maxLen by decide))
  have BW : Hid (Below H w (w.alloc (.cells #[.string { data := #[] }, .int .i64 (root : Nat)] 145))) := Lib.hid ((Below.refl _ _).alloc (by omega) _)
  have HH := Lib.hid hH
  clear hB hBw hK hA hv hr hc hlen hall hn hal L0 hH hQ
  go_enter Tryz.func40, Tryz.ntmps40
  go_wp2_with fail
  go_loopw [6] (fun v wx => ∃ K : List Pc, ∃ done : List UInt8, Hid (wx.ownsRow H 145 2 v K.length (pcR.cells K.reverse)) ∧ Hid (Bld B b done wx) ∧ Hid (Below B w wx) ∧ Hid (H ≤ wx.heap.size) ∧ Hid (Left E n all done K)) (fun v wx => PShow.cntP E (rdL wx v))
  case atStart => exact ⟨[([], (root : Int))], l, OW, Lib.hid (bld_below HB.out (by rw [HH.out]; exact BW.out)), Lib.hid (BW.out.mono (by have := HBW.out; have := HH.out; omega)), Lib.hid (by have := BW.out.size; have := HH.out; omega), HL0⟩
  case round =>
    obtain ⟨K, done, I1, I2, I3, I4, I5⟩ := hrel
    have HBH : Hid (B ≤ H) := Lib.hid (by have := HBW.out; have := HH.out; omega)
    cases K with
    | nil =>
      obtain ⟨A0, c0, rfl, -⟩ := own_slice I1.out
      have L := I5.out.text
      have FB : Hid (Bld B b all wr) := Lib.hid (by rw [← L]; simpa [PShow.pcsT] using I2.out)
      clear I1 L
      simp only [List.length_nil]
      go_wp2_with fail
      go_end0
      exact FIN.out _ FB.out I3.out
    | cons x K' =>
      obtain ⟨s, p⟩ := x
      obtain ⟨m, hm⟩ : ∃ m, K'.length = m := ⟨_, rfl⟩
      have hm2 : K'.reverse.length = m := by rw [List.length_reverse, hm]
      have hmu : PShow.cntP E (rdL wr u6) = PShow.cntP E ((s, p) :: K') := by rw [rdL_own I1.out (by simp), PShow.cntP_rev]
      have hfew := I5.out.few
      have hpl := pc_len E ((s, p) :: K')
      have hslen := I5.out.len
      have hO := I1.out
      rw [List.length_cons, hm, List.reverse_cons] at hO
      rw [List.length_cons, hm] at hpl
      have hm3 : m ≤ 10000 := by omega
      obtain ⟨g, cc, rfl, hmc, own1, cells1⟩ := own_last hO hm2
      have c0 : wr.cell? ⟨g, m * 2, none⟩ = some (.string ⟨s.toArray⟩) := cells1 0 _ rfl
      have c1 : wr.cell? ⟨g, m * 2 + 1, none⟩ = some (.int .i64 p) := cells1 1 _ rfl
      obtain ⟨w9, hw9, SB, b9⟩ : ∃ w9, wr.alloc (.cells #[.string { data := #[] }, .int .i64 0] 145) = w9 ∧ Box w9 wr.heap.size [.string { data := #[] }, .int .i64 0] ∧ Below wr.heap.size wr w9 := ⟨_, rfl, Box.new _ _ [.string { data := #[] }, .int .i64 0], (Below.refl _ _).alloc (Nat.le_refl _) _⟩
      obtain ⟨w10, hw10, ON10⟩ : ∃ w', ((w9.setCell ⟨wr.heap.size, 0, none⟩ (.string ⟨s.toArray⟩)).setCell ⟨wr.heap.size, 1, none⟩ (.int .i64 p)) = w' ∧ Only wr.heap.size w9 w' := ⟨_, rfl, ((Only.refl _ w9).set 0 _).set 1 _⟩
      have NX : w10.ownsRow wr.heap.size 145 2 (.slice (some ⟨wr.heap.size, 0, none⟩) 1 1) 1 [.string ⟨s.toArray⟩, .int .i64 p] := by
        have h0 := own_built pcR wr 145 [([], (0 : Int))] (Nat.le_refl _) (show 1 ≤ maxLen by decide)
        have h1 := (h0.stored 0 (.string ⟨s.toArray⟩)).1
        have h2 := (h1.stored 1 (.int .i64 p)).1
        rw [← hw10, ← hw9]
        exact h2
      have u0 : w10.cell? ⟨wr.heap.size, 0, none⟩ = some (.string ⟨s.toArray⟩) := NX.cellAt 0 (by decide)
      have u1 : w10.cell? ⟨wr.heap.size, 1, none⟩ = some (.int .i64 p) := NX.cellAt 1 (by decide)
      have b10 : Below wr.heap.size wr w10 := ON10.below (Nat.le_refl _) b9
      have hBr : B ≤ wr.heap.size := by have := HBH.out; have := I4.out; omega
      have OW1 := Lib.hid (own_kept own1 b10)
      have BL1 := Lib.hid (bld_below I2.out b10)
      have hs10 : wr.heap.size < w10.heap.size := (NX.lt _ rfl).2
      have nb : (Value.slice (some ⟨g, 0, none⟩) m cc).ownBlock ≠ some b := bld_apart BL1.out OW1.out (by decide)
      have nb2 : (Value.slice (some ⟨wr.heap.size, 0, none⟩) 1 1).ownBlock ≠ some b := bld_apart BL1.out NX (by decide)
      have HNB := Lib.hid nb; have HNB2 := Lib.hid nb2
      have BB := Lib.hid (I3.out.trans (b10.mono hBr))
      have WC := Lib.hid (bwrite_any B b done s w10 BL1.out (by have := HAL.out; omega) (by omega))
      have HMU := Lib.hid hmu; have HNX := Lib.hid NX; have HW10 := Lib.hid hw10; have HBR := Lib.hid hBr; have HS10 := Lib.hid hs10; have HM := Lib.hid hm; have HM2 := Lib.hid hm2
      have gm : (0 : Int) < (m : Int) + 1 := by omega
      obtain ⟨s0, s1⟩ := px2 SB
      obtain ⟨g0, g1⟩ := px2f SB
      have hs9 := SB.1
      clear hmu hfew hpl hslen hO own1 cells1 SB b9 NX ON10 b10 nb nb2 hw10 hm hm2 I1 I2 I3 hBr hs10
      rcases I5.out.at' (s, p) (List.mem_cons_self ..) with hp | ⟨hp0, hpn⟩
      · obtain rfl : p = -1 := hp
        go_upto_region 4 with fail
        rw [HW10.out]
        clear HW10 hw9 s0 s1 g0 g1 hs9
        go_wp2_with (go_at_call 76; refine WC.out.mono ?_)
        rintro e11 w11 ⟨rfl, bl11, be11, ok11⟩
        have NX11 := own_others HNX.out ok11 (by decide) HNB2.out
        have OW11 := Lib.hid (own_others OW1.out ok11 (by decide) HNB.out)
        have v0 : w11.cell? ⟨wr.heap.size, 0, none⟩ = some (.string ⟨s.toArray⟩) := NX11.cellAt 0 (by decide)
        have v1 : w11.cell? ⟨wr.heap.size, 1, none⟩ = some (.int .i64 (-1)) := NX11.cellAt 1 (by decide)
        have hsX : wr.heap.size < w11.heap.size := (NX11.lt _ rfl).2
        have HH11 := Lib.hid (show H ≤ w11.heap.size by have := I4.out; omega)
        have BL11 := Lib.hid bl11; have BE := Lib.hid (BB.out.trans be11)
        clear u0 u1 NX11 bl11 be11 ok11 HNX WC BB OW1 BL1 HNB HNB2 HS10
        go_wp2_with fail
        exact ⟨⟨K', done ++ s, Lib.hid (by rw [HM.out]; exact OW11.out), BL11, BE, HH11, Lib.hid I5.out.step0⟩, by rw [rdL_own OW11.out HM2.out, HMU.out, PShow.cntP_rev, PShow.step_cnt0]; omega⟩
      · obtain ⟨i, rfl⟩ : ∃ i : Nat, p = i := ⟨p.toNat, by have : 0 ≤ p := hp0; omega⟩
        have hi : i < n := by have : (i : Int) < n := hpn; omega
        have hiE : i < E.length := by rw [HN.out]; exact hi
        obtain ⟨x, hx⟩ : ∃ x, E[i]? = some x := ⟨_, List.getElem?_eq_getElem hiE⟩
        obtain ⟨P, hP⟩ : ∃ P, PShow.pieces (PShow.rkAt E) x = P := ⟨_, rfl⟩
        have hP7 : P.length ≤ 7 := by rw [← hP]; exact PShow.pieces_len _ x
        have hP0 : P.length ≠ 0 := by rw [← hP]; exact pcs_ne _ x
        have hvx := HV.out x (List.mem_iff_getElem?.2 ⟨i, hx⟩)
        have PC : Hid (∀ wa : World, Below B w wa → Calls Tryz.prog 77 #[.slice A n c, .int .i64 (i : Nat)] wa (PcAns P wa)) := Lib.hid (fun wa hb => by
          rw [← hP]
          obtain ⟨k1, k2⟩ := HK.out wa hb
          exact kpieces_any k1 hx k2 hvx.1 hvx.2 (places_prt HA.out HN.out hx))
        have I6 := I5.out.step HA.out HN.out hx
        have hst := PShow.step_cnt (s := s) HA.out hx K'
        rw [hP] at I6 hst
        have HI6 := Lib.hid I6; have HST := Lib.hid hst; have HP7 := Lib.hid hP7; have HP0 := Lib.hid hP0
        clear I5 I6 hst hP hx hiE hvx hp0 hpn hP7 hP0
        have hne : ((i : Int) == -1) = false := by rw [beq_eq_false_iff_ne]; omega
        go_upto_region 4 with fail
        rw [HW10.out]
        clear HW10 hw9 s0 s1 g0 g1 hs9
        go_wp2_with (go_at_call 76; refine WC.out.mono ?_)
        rintro e11 w11 ⟨rfl, bl11, be11, ok11⟩
        have NX11 := own_others HNX.out ok11 (by decide) HNB2.out
        have OW11 := Lib.hid (own_others OW1.out ok11 (by decide) HNB.out)
        have v0 : w11.cell? ⟨wr.heap.size, 0, none⟩ = some (.string ⟨s.toArray⟩) := NX11.cellAt 0 (by decide)
        have v1 : w11.cell? ⟨wr.heap.size, 1, none⟩ = some (.int .i64 (i : Int)) := NX11.cellAt 1 (by decide)
        have hsX : wr.heap.size < w11.heap.size := (NX11.lt _ rfl).2
        have HH11 := Lib.hid (show H ≤ w11.heap.size by have := I4.out; omega)
        have BL11 := Lib.hid bl11; have BE := Lib.hid (BB.out.trans be11)
        clear u0 u1 NX11 bl11 be11 ok11 HNX WC BB OW1 BL1 HNB HNB2 HS10
        go_wp2_with (go_at_call 77; refine (PC.out _ BE.out).mono ?_)
        intro e12 w12 hp12
        obtain ⟨v12, rfl, ow12, b12⟩ := hp12
        obtain ⟨q, hq⟩ : ∃ q, P.length = q := ⟨_, rfl⟩
        have hq7 := HP7.out
        have hq0 := HP0.out
        rw [hq] at ow12 hq7 hq0
        obtain ⟨g2, c2, rfl, hg2, hqc, pr12⟩ := pcRow_own ow12 hq hq0
        have RV := Lib.hid (krev_any pr12 hq (by omega) hqc)
        have HB12 := Lib.hid b12; have HG2 := Lib.hid hg2; have HQ0 := Lib.hid hq
        clear ow12 pr12 b12 hg2 hq hqc hq0 PC v0 v1 hsX
        go_wp2_with (go_at_call 78; refine RV.out.mono ?_)
        rintro e13 w13 ⟨rfl, pr13, on13⟩
        have b13 : Below w11.heap.size w11 w13 := on13.below HG2.out HB12.out
        have OW13 := Lib.hid (own_kept OW11.out b13)
        have BL13 := Lib.hid (bld_below BL11.out b13)
        have SX13 : SlX pcR w13 (some ⟨g2, 0, none⟩) q P.reverse := by
          have h := pr13.sl
          rw [List.length_reverse, HQ0.out] at h
          exact h
        have HSX := Lib.hid SX13
        have HB13 := Lib.hid b13
        clear SX13 pr13 on13 b13 RV
        go_wp2_with (at_builtin; refine append_kept show_pcTy rfl _ _ rfl H _ m K'.reverse (by rfl) OW13.out ⟨g2, 0, none⟩ q c2 P.reverse (by rfl) HSX.out (by omega) (by have := HH11.out; have := HB13.out.size; omega) ?_)
        intro v14 w14 own14 b14 k14
        have BL14 := Lib.hid (bld_others BL13.out OW13.out (by decide) (by decide) k14)
        have BE14 := Lib.hid ((BE.out.trans (HB13.out.mono (by have := HBH.out; have := HH11.out; omega))).trans (b14.mono HBH.out))
        have HH14 := Lib.hid (show H ≤ w14.heap.size by have := HH11.out; have := HB13.out.size; have := b14.size; omega)
        have OW14 : Hid (w14.ownsRow H 145 2 v14 (m + q) (pcR.cells (P ++ K').reverse)) := Lib.hid (by rw [List.reverse_append]; exact own14)
        clear own14 b14 k14
        go_wp2_with fail
        refine ⟨⟨P ++ K', done ++ s, Lib.hid ?_, BL14, BE14, HH14, HI6⟩, ?_⟩
        · rw [List.length_append, HM.out, HQ0.out, Nat.add_comm q m]; exact OW14.out
        · rw [rdL_own OW14.out (by rw [List.length_reverse, List.length_append, HM.out, HQ0.out]; omega), HMU.out, PShow.cntP_rev, HST.out]; omega
end Go.Proofs.YtfihdbnecepmfaaGreatDoor
