/-
  GarnishTwice: what is served, month by month, of balances that go down by it, is never more than they were.
-/
import Derived.Test.YtmmgejgmlhhfdaaLaw15AllG
import Derived.Lib.SliceRun
namespace Go.Proofs.Ytmmgejgmlhhfdaa
open Go.RowKit

/-- An order of a claim and a balance below 2^30. -/
def PGa.mc (o : PGa.Ord) : PGa.Ord := ⟨o.c, o.p, (max o.cl 0).tmod 1073741824, (max o.ba 0).tmod 1073741824⟩
theorem mod30_range (x : Int) : 0 ≤ (max x 0).tmod 1073741824 ∧ (max x 0).tmod 1073741824 < 1073741824 := by
  rw [Int.tmod_eq_emod_of_nonneg (by omega)]; omega
/-- Orders of claims and balances below 2^30. -/
def PGa.Small (L : List PGa.Ord) : Prop := ∀ i (h : i < L.length), (0 ≤ L[i].cl ∧ L[i].cl < 1073741824) ∧ 0 ≤ L[i].ba ∧ L[i].ba < 1073741824
theorem mc_small (l : List PGa.Ord) : PGa.Small (l.map PGa.mc) := fun i hi => by
  have hil : i < l.length := by simpa using hi
  rw [show (l.map PGa.mc)[i] = PGa.mc l[i] by simp]
  have h1 := mod30_range l[i].cl; have h2 := mod30_range l[i].ba
  unfold PGa.mc
  exact ⟨⟨h1.1, h1.2⟩, h2.1, h2.2⟩
theorem PGa.Small.ok {L : List PGa.Ord} (h : PGa.Small L) : PGa.Ok L := fun i hi => by have := h i hi; exact ⟨⟨this.1.1, by omega⟩, this.2.1, by omega⟩
theorem PGa.Ok.noerr {L : List PGa.Ord} {net : Int} (hok : PGa.Ok L) (hl : L.length ≤ 8) (h2 : -1125899906842624 ≤ net) (h3 : net ≤ 1125899906842624) : PGa.err net 0 L = 0 := by
  have a1 : L.any PGa.low = false := Bool.eq_false_iff.2 (fun k => by
    obtain ⟨o, ho, h⟩ := List.any_eq_true.1 k
    obtain ⟨i, hi, rfl⟩ := List.getElem_of_mem ho
    have := hok i hi
    unfold PGa.low at h
    rw [Bool.or_eq_true, decide_eq_true_eq, decide_eq_true_eq] at h
    omega)
  have a2 : L.any PGa.over = false := Bool.eq_false_iff.2 (fun k => by
    obtain ⟨o, ho, h⟩ := List.any_eq_true.1 k
    obtain ⟨i, hi, rfl⟩ := List.getElem_of_mem ho
    have := hok i hi
    unfold PGa.over at h
    rw [Bool.or_eq_true, decide_eq_true_eq, decide_eq_true_eq] at h
    omega)
  unfold PGa.err
  rw [if_neg (by omega), if_neg (by rw [a1]; intro k; rcases k with k | k; omega; cases k), if_neg (by rw [a2]; intro k; rcases k with k | k | k; omega; omega; cases k)]
/-- What is left is small. -/
theorem PGa.CutTo.small {l L : List PGa.Ord} {ps : List Int} {n : Nat} (h : PGa.CutTo l ps n L) (hn : l.length = n) (hs : PGa.Small l) (hp : PGa.PaidOk l ps) : PGa.Small L := fun i hi => by
  have hil : i < l.length := by rw [← h.1]; exact hi
  have h1 := hs i hil; have h2 := hp.2 i hil
  rw [h.2 i hil hi, if_pos (by omega)]
  unfold PGa.cut
  exact ⟨h1.1, by simp only; omega, by simp only; omega⟩
theorem served_paidok {T : Nat} {l : List PGa.Ord} (hok : PGa.Ok l) {n : Nat} (hn : l.length = n) : PGa.PaidOk l (PSplit.wlist (PGa.served T l) n) := ⟨by rw [PSplit.wlist_len, hn], fun i hi => by
  have h1 := PGa.served_le T l i
  have h2 := hok.wn hi
  rw [PSplit.wlist_get (by omega)]
  omega⟩

theorem slo_only {w w' : World} {H n : Nat} {A : Option Addr} {l : List PGa.Ord} (h : SlO w A n l) (ho : Only H w w') (hne : ∀ ad, A = some ad → ad.block ≠ H) : SlO w' A n l := by
  obtain ⟨⟨h1, h2⟩, h3⟩ := h
  refine ⟨⟨h1, ?_⟩, h3⟩
  rcases h2 with h2 | ⟨b, off, rfl, h4⟩
  · exact .inl h2
  · exact .inr ⟨b, off, rfl, fun i hi j v e => by rw [ho.cell ⟨b, off + i * ordR.k + j, none⟩ (show b ≠ H from hne ⟨b, off, none⟩ rfl)]; exact h4 i hi j v e⟩

set_option maxHeartbeats 6400000 in
set_option maxRecDepth 100000 in
theorem lgtwice_in {A : Option Addr} {n ca : Nat} {l : List PGa.Ord} {w : World} {p : Int} (h : SlO w A n l) (h8 : n ≤ 8) (p0 : 0 ≤ p) (p1 : p ≤ 4294967295) :
    Calls Try.prog 8 #[.slice A n ca, .int .u32 p] w fun e w' => e = .returned (.bool true) ∧ Below w.heap.size w w' := by
  have H := Lib.hid h
  have hl := Lib.hid h.len
  have i8 : ¬ (8 : Int) < (n : Int) := by omega
  obtain ⟨L, hL⟩ : ∃ L, l.map PGa.mc = L := ⟨_, rfl⟩
  have hLn : L.length = n := by rw [← hL, List.length_map, h.len]
  have HLn := Lib.hid hLn
  have HSM : Hid (PGa.Small L) := Lib.hid (by rw [← hL]; exact mc_small l)
  have HMD : Hid (∀ k (hk : k < l.length) (hk2 : k < L.length), L[k] = PGa.mc l[k]) := Lib.hid (fun k hk hk2 => by subst hL; simp)
  have HIN : Hid (∀ i (h : i < L.length), PGa.In L[i]) := Lib.hid (fun i hi => by
    have hil : i < l.length := by rw [h.len, ← hLn]; exact hi
    rw [HMD.out i hil hi]
    have := h.2.1 i hil
    have h1 := mod30_range l[i].cl; have h2 := mod30_range l[i].ba
    unfold PGa.mc
    exact ⟨this.1, this.2.1, ⟨by simp only; omega, by simp only; omega⟩, by simp only; omega, by simp only; omega⟩)
  have w4 : IntKind.i64.wrap p = p := by rw [IntKind.wrap_i64]; omega
  have C1 : Hid (∀ w' V c Lk, SlO w' V n Lk → PGa.Small Lk → Calls Try.prog 11 #[.int .i64 p, .int .i64 0, .slice V n c] w' (ServeR n (PSplit.wlist (PGa.served (PGa.there p 0) Lk) n) w')) := Lib.hid (fun w' V c Lk hs hsm => gaserve_yes hs (hsm.ok.noerr (by rw [hs.len]; exact h8) (by omega) (by omega)))
  have hmk := make_row n (by omega)
  clear h hLn hL p0 p1
  go_enter Try.func8, Try.ntmps8
  go_wp2_with fail
  go_loopw [5, 21] (fun v i wy => ∃ (k : Nat) (V : Option Addr) (cv : Nat), k ≤ n ∧ v = .slice V k cv ∧ i = .int .i64 k ∧ Hid (wy.ownsRow w.heap.size 35 4 (.slice V k cv) (L.take k).length (ordR.cells (L.take k))) ∧ Hid (Below w.heap.size w wy)) (fun _ i _ => n - (intOf i).toNat)
  case atStart => exact ⟨0, none, 0, Nat.zero_le _, rfl, rfl, (show Hid _ from ⟨rfl, .inl ⟨rfl, rfl⟩⟩), (show Hid _ from Below.refl _ _)⟩
  case round =>
    obtain ⟨k, V, cv, hk, rfl, rfl, HO, HY⟩ := hrel
    by_cases hlt : k < n
    · obtain ⟨b, off, rfl, hc⟩ := (H.out.on HY.out).cells hlt
      have hkl : k < l.length := by rw [hl.out]; exact hlt
      have hkL : k < L.length := by rw [HLn.out]; exact hlt
      obtain ⟨d0, d1, d2, d3⟩ := hc k hkl
      have hmd := HMD.out k hkl hkL
      have hnext : L.take (k + 1) = L.take k ++ [L[k]] := List.take_succ_eq_append_getElem hkL
      have hlen : (L.take k).length = k := by rw [List.length_take, HLn.out]; omega
      obtain ⟨o, ho⟩ : ∃ o, l[k] = o := ⟨_, rfl⟩
      rw [ho] at d0 d1 d2 d3 hmd
      rw [hmd] at hnext
      obtain ⟨oc, op, ocl, oba⟩ := o
      obtain ⟨mc, hmc⟩ : ∃ x, max ocl 0 = x := ⟨_, rfl⟩
      obtain ⟨mb, hmb⟩ : ∃ x, max oba 0 = x := ⟨_, rfl⟩
      obtain ⟨cl, hcl⟩ : ∃ x, mc.tmod 1073741824 = x := ⟨_, rfl⟩
      obtain ⟨ba, hba⟩ : ∃ x, mb.tmod 1073741824 = x := ⟨_, rfl⟩
      have r1 := mod30_range ocl; have r2 := mod30_range oba
      rw [hmc, hcl] at r1; rw [hmb, hba] at r2
      have hmd2 : PGa.mc ⟨oc, op, ocl, oba⟩ = ⟨oc, op, cl, ba⟩ := by unfold PGa.mc; simp only [hmc, hmb, hcl, hba]
      rw [hmd2] at hnext
      have w1 : IntKind.i64.wrap cl = cl := by rw [IntKind.wrap_i64]; omega
      have w2 : IntKind.i64.wrap ba = ba := by rw [IntKind.wrap_i64]; omega
      have i1 : (0 : Int) ≤ (k : Int) := by omega
      have i2 : (k : Int) < (n : Int) := by omega
      obtain ⟨LT, hLT⟩ : ∃ q, L.take k = q := ⟨_, rfl⟩
      rw [hLT] at HO hnext hlen
      have HNX := Lib.hid hnext; have HLT := Lib.hid hlen
      clear hc hmd hnext hlen ho hmd2 hLT
      go_upto_region 8 with fail
      have b5 : Below wr.heap.size wr (wr.alloc (.cells #[.int .i64 oc, .int .i64 op, .int .i64 cl, .int .i64 ba] 35)) := (Below.refl _ _).alloc (Nat.le_refl _) _
      have XA5 := Lib.hid (Box.new wr 35 [.int .i64 oc, .int .i64 op, .int .i64 cl, .int .i64 ba])
      have HO5 := Lib.hid (own_below HO.out b5)
      have HY5 := Lib.hid (below_step HY.out b5)
      obtain ⟨G, hG⟩ : ∃ G, wr.heap.size = G := ⟨_, rfl⟩
      rw [hG] at XA5 ⊢
      generalize wr.alloc (.cells [.int .i64 oc, .int .i64 op, .int .i64 cl, .int .i64 ba].toArray 35) = w5 at *
      clear b5 hG HO HY d0 d1 d2 d3 w1 w2
      obtain ⟨a0, a1, a2, a3⟩ := box4 XA5.out
      have hsz := HY5.out.size
      go_wp2_with (at_builtin; refine append_rec ord_recTy rfl _ _ rfl w.heap.size (.slice V k cv) LT ⟨oc, op, cl, ba⟩ (by rfl) HO5.out (by rfl) (by rw [HLT.out]; omega) hsz ?_)
      intro p' w6 hown6 hb6
      rw [HLT.out] at hown6
      obtain ⟨P1, cpn, rfl⟩ := own_shape15 hown6
      have HO7 : Hid (w6.ownsRow w.heap.size 35 4 (.slice P1 (k + 1) cpn) (L.take (k + 1)).length (ordR.cells (L.take (k + 1)))) := Lib.hid (by
        rw [HNX.out, List.length_append, HLT.out]
        exact hown6)
      have HY7 := Lib.hid (HY5.out.trans hb6)
      clear hown6 hb6 a0 a1 a2 a3 XA5 HO5 HY5
      go_wp2_with fail
      exact ⟨⟨k + 1, P1, cpn, by omega, rfl, by congr 1, HO7, HY7⟩, by simp [intOf]; omega⟩
    · obtain rfl : k = n := by omega
      have hw : L.take k = L := List.take_of_length_le (by rw [HLn.out]; exact Nat.le_refl _)
      obtain ⟨hSV, hVc⟩ : SlO wr V k L ∧ (V = none → cv = 0) := by
        have := HO.out
        rw [hw, HLn.out] at this
        obtain ⟨A', cap', e, hc, _, hx⟩ := slr_of_own (R := ordR) this HLn.out
        injection e with e1 e2 e3
        subst e1; subst e3
        exact ⟨⟨hx, HIN.out, by omega⟩, hc⟩
      have HSV := Lib.hid hSV; have HVC := Lib.hid hVc
      have HVO : Hid (∀ ad, V = some ad → ad.block < wr.heap.size) := Lib.hid (fun ad e => (HO.out.lt ad.block (by rw [e]; rfl)).2)
      have HSX := Lib.hid ((hSV.on ((Below.refl wr.heap.size wr).alloc (Nat.le_refl _) (.cells #[] 35))).1)
      have HO0 := Lib.hid (own_none4 wr)
      clear hw hSV HO hVc
      go_wp2_with (at_builtin; refine append_recs ord_recTy rfl _ _ rfl wr.heap.size _ [] (by rfl) HO0.out V k cv L (by rfl) HVC.out HSX.out (by simp; omega) (by simp) ?_)
      intro f' w6 hown6 hb6
      obtain ⟨F, cF, rfl, HSF, HFO⟩ : ∃ (F : Option Addr) (cF : Nat), f' = .slice F k cF ∧ Hid (SlO w6 F k L) ∧ Hid (∀ ad, F = some ad → ad.block < w6.heap.size) := by
        have hown' : w6.ownsRow wr.heap.size 35 4 f' k (ordR.cells L) := hown6
        obtain ⟨F, cF, rfl, _, _, hx⟩ := slr_of_own (R := ordR) hown' HLn.out
        exact ⟨F, cF, rfl, Lib.hid ⟨hx, HIN.out, by omega⟩, Lib.hid (fun ad e => (hown'.lt ad.block (by rw [e]; rfl)).2)⟩
      have b6 : Below wr.heap.size wr w6 := ((Below.refl wr.heap.size wr).alloc (Nat.le_refl _) (.cells #[] 35)).trans hb6
      have HSV6 := Lib.hid (HSV.out.on b6); have HY6 := Lib.hid (below_step HY.out b6)
      have HVO6 : Hid (∀ ad, V = some ad → ad.block < w6.heap.size) := Lib.hid (fun ad e => Nat.lt_of_lt_of_le (HVO.out ad e) b6.size)
      clear hown6 hb6 b6 HSX HO0 HSV HVO HY
      go_upto_region 12 with fail
      obtain ⟨Q, hQ⟩ : ∃ Q, w6.heap.size = Q := ⟨_, rfl⟩
      have b7 : Below w6.heap.size w6 (w6.alloc (.cells (madeCells #[.int .i64 0] k) 3)) := (Below.refl _ _).alloc (Nat.le_refl _) _
      have R7 : Hid (Rw (w6.alloc (.cells (madeCells #[.int .i64 0] k) 3)) Q k (List.replicate k 0)) := Lib.hid (by rw [← hQ]; exact Rw.of_row (made_row w6 _ k rfl (by omega)) List.length_replicate)
      have S7 : Hid (Q < (w6.alloc (.cells (madeCells #[.int .i64 0] k) 3)).heap.size) := Lib.hid (by simp [hQ])
      have HSV7 := Lib.hid (HSV6.out.on b7); have HSF7 := Lib.hid (HSF.out.on b7); have HY7 := Lib.hid (below_step HY6.out b7)
      have HQw : Hid (w.heap.size ≤ Q) := Lib.hid (by rw [← hQ]; exact HY6.out.size)
      have NV : Hid (∀ ad, V = some ad → ad.block ≠ Q) := Lib.hid (fun ad e => by have := HVO6.out ad e; omega)
      have NF : Hid (∀ ad, F = some ad → ad.block ≠ Q) := Lib.hid (fun ad e => by have := HFO.out ad e; omega)
      (try rw [hQ])
      generalize w6.alloc (.cells (madeCells #[.int .i64 0] k) 3) = w7 at *
      clear b7 hQ hmk HSV6 HSF HY6 HVO6 HFO
      go_wp2_with fail
      go_loopw [5, 46] (fun v i wy => ∃ (t : Nat) (V : Option Addr) (cv : Nat) (Lk : List PGa.Ord) (q : List Int), t ≤ 20 ∧ v = .slice V k cv ∧ i = .int .i64 t ∧ Hid (V = none → cv = 0) ∧ Hid (SlO wy V k Lk) ∧ Hid (PGa.Small Lk) ∧ Hid (Rw wy Q k q) ∧ Hid (∀ i (h1 : i < Lk.length) (h2 : i < L.length), q.getD i 0 + Lk[i].ba = L[i].ba) ∧ Hid (SlO wy F k L) ∧ Hid (∀ ad, V = some ad → ad.block ≠ Q) ∧ Hid (Q < wy.heap.size) ∧ Hid (Below w.heap.size w wy)) (fun _ i _ => 20 - (intOf i).toNat)
      case atStart => exact ⟨0, V, cv, L, _, by omega, rfl, rfl, HVC, HSV7, HSM, R7, (show Hid _ from fun i h1 h2 => by simp [List.getD, List.getElem?_replicate]; split <;> simp), HSF7, NV, S7, HY7⟩
      case round =>
        clear HSV7 HSF7 R7 S7 HY7 NV HVC
        obtain ⟨t, V, cv, Lk, q, ht, rfl, rfl, HVC, HSV, HSK, HR, HQB, HSF, NV, HS, HY⟩ := hrel
        by_cases hlt : t < 20
        · have i1 : (t : Int) < 20 := by omega
          obtain ⟨ps, hps⟩ : ∃ ps, PSplit.wlist (PGa.served (PGa.there p 0) Lk) k = ps := ⟨_, rfl⟩
          have hpok : PGa.PaidOk Lk ps := by rw [← hps]; exact served_paidok HSK.out.ok HSV.out.len
          have D1 := C1.out wr V cv Lk HSV.out HSK.out
          rw [hps] at D1
          have HD1 := Lib.hid D1
          have HPOK := Lib.hid hpok
          clear D1 hps hpok
          go_wp2_with fail
          refine HD1.out.mono ?_
          rintro _ w8 ⟨B1, rfl, hB1, s1, b8⟩
          have HSV8 := Lib.hid (HSV.out.on b8); have HSF8 := Lib.hid (HSF.out.on b8); have HR8 := Lib.hid (HR.out.on b8); have HS8 := Lib.hid (Nat.lt_of_lt_of_le HS.out b8.size); have HY8 := Lib.hid (below_step HY.out b8)
          have HP := Lib.hid (gapaid_any (cp := k) HSV8.out HVC.out (by omega) s1 (by omega))
          have HS1 := Lib.hid s1
          have NS : Hid (B1 ≠ Q) := Lib.hid (by have := HS.out; omega)
          clear b8 s1 hB1 HSF HR HS HY HD1
          go_wp2_with fail
          refine HP.out.mono ?_
          rintro e w9 ⟨b9, hPC⟩
          obtain ⟨B2, c2, L2, rfl, hB2, hcut, hs2, hf2⟩ : ∃ (B2 : Option Addr) (c2 : Nat) (L2 : List PGa.Ord), e = .returned (.tuple #[.slice B2 k c2, .bool true]) ∧ (B2 = none → c2 = 0) ∧ PGa.CutTo Lk ps k L2 ∧ SlO w9 B2 k L2 ∧ ∀ ad, B2 = some ad → w8.heap.size ≤ ad.block := by
            rcases hPC with ⟨_, B, c, L', rfl, h1, h2, h3, h4⟩ | ⟨hn, _⟩
            · exact ⟨B, c, L', rfl, h1, h2, h3, h4⟩
            · exact absurd HPOK.out hn
          have HB2 := Lib.hid hB2; have HCUT := Lib.hid hcut; have HS2 := Lib.hid hs2
          have HSM2 : Hid (PGa.Small L2) := Lib.hid (hcut.small HSV.out.len HSK.out HPOK.out)
          have N2 : Hid (∀ ad, B2 = some ad → ad.block ≠ Q) := Lib.hid (fun ad e => by have := hf2 ad e; have := HS8.out; omega)
          have HSF9 := Lib.hid (HSF8.out.on b9); have HR9 := Lib.hid (HR8.out.on b9); have HS9 := Lib.hid (Nat.lt_of_lt_of_le HS8.out b9.size); have HY9 := Lib.hid (below_step HY8.out b9); have HS19 := Lib.hid (HS1.out.on b9)
          have HLK := Lib.hid HSV.out.len
          have HPL := Lib.hid HPOK.out
          clear b9 hPC hB2 hcut hs2 hf2 HP HSV8 HSF8 HR8 HS8 HY8 HS1 HSV HVC NV
          have e3 : ((k : Int) != (k : Int)) = false := bne_self_eq_false _
          go_wp2_with fail
          clear e3
          go_loopw [83] (fun i wy => ∃ (j : Nat) (q2 : List Int), j ≤ k ∧ i = .int .i64 j ∧ Hid (Rw wy Q k q2) ∧ Hid (∀ i, i < k → q2.getD i 0 = if i < j then q.getD i 0 + ps.getD i 0 else q.getD i 0) ∧ Hid (Only Q w9 wy)) (fun i _ => k - (intOf i).toNat)
          case atStart => exact ⟨0, q, Nat.zero_le _, rfl, HR9, (show Hid _ from fun i hi => by rw [if_neg (by omega)]), (show Hid _ from Only.refl _ _)⟩
          case round =>
            obtain ⟨j, q2, hj, rfl, RY, QY, OY⟩ := hrel
            by_cases hjt : j < k
            · have hS := sl_only HS19.out OY.out (fun ad e => by cases e; exact NS.out)
              obtain ⟨b8, o8, e8, h8'⟩ := ga_at hS hjt
              injection e8 with e8; injection e8 with e81 e82; subst e81; subst e82
              have c3 := h8' j hjt
              rw [Nat.zero_add] at c3
              have c1 := (RY.out.2 j hjt).1; have c2' := (RY.out.2 j hjt).2
              rw [QY.out j hjt, if_neg (by omega)] at c1
              have hjk : j < Lk.length := by rw [HLK.out]; exact hjt
              have hj2 : j < L2.length := by rw [HCUT.out.1]; exact hjk
              have hjL : j < L.length := by rw [HLn.out]; exact hjt
              obtain ⟨bN, oN, rfl, hcN⟩ := (slo_only HS2.out OY.out N2.out).cells hjt
              obtain ⟨bF, oF, rfl, hcF⟩ := (slo_only HSF9.out OY.out NF.out).cells hjt
              obtain ⟨-, -, -, f3⟩ := hcN j hj2
              obtain ⟨-, -, -, g3⟩ := hcF j hjL
              have hL2 := HCUT.out.2 j hjk hj2
              rw [if_pos hjt] at hL2
              have hsm := HSM2.out j hj2
              have hqb := HQB.out j hjk hjL
              have hpp := HPL.out.2 j hjk
              have hsk := HSK.out j hjk
              have hsl := HSM.out j hjL
              have hcba : L2[j].ba = Lk[j].ba - ps.getD j 0 := by rw [hL2]; rfl
              obtain ⟨x, hx⟩ : ∃ x, ps.getD j 0 = x := ⟨_, rfl⟩
              obtain ⟨v, hv⟩ : ∃ x, q.getD j 0 = x := ⟨_, rfl⟩
              obtain ⟨nb, hnb⟩ : ∃ x, L2[j].ba = x := ⟨_, rfl⟩
              obtain ⟨fb, hfb⟩ : ∃ x, L[j].ba = x := ⟨_, rfl⟩
              rw [hx] at c3 hpp hcba; rw [hv] at c1 hqb; rw [hnb] at f3 hsm hcba; rw [hfb] at g3 hqb hsl
              obtain ⟨v2, hv2⟩ : ∃ z, v + x = z := ⟨_, rfl⟩
              have e1 : IntKind.i64.wrap (v + x) = v2 := by rw [IntKind.wrap_i64]; omega
              have e2 : IntKind.i64.wrap (v2 + nb) = fb := by rw [IntKind.wrap_i64]; omega
              have e5 : (fb != fb) = false := bne_self_eq_false _
              have e6 : decide (nb < 0) = false := decide_eq_false (by omega)
              have i3 : (0 : Int) ≤ (j : Int) := by omega
              have i4 : (j : Int) < (k : Int) := by omega
              have Q8 : Hid (∀ i, i < k → (q2.set j v2).getD i 0 = if i < j + 1 then q.getD i 0 + ps.getD i 0 else q.getD i 0) := Lib.hid (fun i hi => by
                rw [set_get RY.out.1 hjt]
                by_cases e : i = j
                · subst e; rw [if_pos rfl, if_pos (by omega), hv, hx, hv2]
                · rw [if_neg e, QY.out i hi]
                  by_cases h : i < j
                  · rw [if_pos h, if_pos (by omega)]
                  · rw [if_neg h, if_neg (by omega)])
              have hbN : bN ≠ Q := N2.out _ rfl
              have hbF : bF ≠ Q := NF.out _ rfl
              clear hS h8' hcN hcF hL2 hsm hqb hpp hsk hsl hcba hx hv hnb hfb hv2
              go_upto_region 21 with fail
              go_region
              have R8 : Hid (Rw (wr.setCell ⟨Q, j, none⟩ (.int .i64 v2)).drew Q k (q2.set j v2)) := Lib.hid ((RY.out.set hjt v2).on (Below.refl _ _).drew)
              have O8 : Hid (Only Q w9 (wr.setCell ⟨Q, j, none⟩ (.int .i64 v2)).drew) := Lib.hid (by
                have := OY.out.set j (.int .i64 v2)
                exact ⟨this.size, this.cell, this.frozen, fun hB hb => (this.below hB hb).drew⟩)
              have r1 : (wr.setCell ⟨Q, j, none⟩ (.int .i64 v2)).drew.cell? ⟨bN, oN + j * 4 + 3, none⟩ = some (.int .i64 nb) := by show (wr.setCell _ _).cell? _ = _; rw [World.cell?_setCell_far _ _ _ _ (by simp only; omega)]; exact f3
              have r2 : (wr.setCell ⟨Q, j, none⟩ (.int .i64 v2)).drew.cell? ⟨bF, oF + j * 4 + 3, none⟩ = some (.int .i64 fb) := by show (wr.setCell _ _).cell? _ = _; rw [World.cell?_setCell_far _ _ _ _ (by simp only; omega)]; exact g3
              generalize (wr.setCell ⟨Q, j, none⟩ (.int .i64 v2)).drew = wz at *
              have r3 := (R8.out.2 j hjt).1
              rw [set_get RY.out.1 hjt, if_pos rfl] at r3
              clear c1 c2' c3 f3 g3 e1
              go_wp2_with fail
              go_quiet (fail)
              have R9 := Lib.hid (R8.out.on (below_drewN (Below.refl _ _) nq))
              have O9 : Hid (Only Q w9 (wz.drewN nq)) := Lib.hid ⟨by have h1 := (below_drewN (Below.refl wz.heap.size wz) nq).size; exact O8.out.size, O8.out.cell, O8.out.frozen, fun hB hb => below_drewN (O8.out.below hB hb) nq⟩
              generalize wz.drewN nq = wq at *
              clear r1 r2 r3
              go_wp2_with fail
              exact ⟨⟨j + 1, _, by omega, by congr 1, R9, Q8, O9⟩, by simp [intOf]; omega⟩
            · obtain rfl : j = k := by omega
              have HSV' := Lib.hid (slo_only HS2.out OY.out N2.out)
              have HSF' := Lib.hid (slo_only HSF9.out OY.out NF.out)
              have HY' := Lib.hid (OY.out.below HQw.out HY9.out)
              have HS' : Hid (Q < wr.heap.size) := Lib.hid (by rw [OY.out.size]; exact HS9.out)
              have HQB' : Hid (∀ i (h1 : i < L2.length) (h2 : i < L.length), q2.getD i 0 + L2[i].ba = L[i].ba) := Lib.hid (fun i h1 h2 => by
                have hik : i < Lk.length := by rw [← HCUT.out.1]; exact h1
                have hij : i < j := by rw [← HLK.out]; exact hik
                have a1 := HQB.out i hik h2
                have a2 := HCUT.out.2 i hik h1
                rw [if_pos hij] at a2
                rw [QY.out i hij, if_pos hij, a2]
                show _ + (Lk[i].ba - ps.getD i 0) = _
                omega)
              go_wp2_with fail
              exact ⟨⟨t + 1, B2, c2, L2, q2, by omega, rfl, by congr 1, HB2, HSV', HSM2, RY, HQB', HSF', N2, HS', HY'⟩, by simp [intOf]; omega⟩
        · obtain rfl : t = 20 := by omega
          go_wp2_with fail
          refine (awake_any _).mono ?_
          rintro _ w9 ⟨rfl, b9⟩
          have B9 := Lib.hid (below_step HY.out b9)
          clear b9
          go_wp2_with fail
          go_ret
          exact ⟨rfl, B9.out⟩

set_option maxHeartbeats 3200000 in
theorem lgtwice_out {A : Option Addr} {n ca : Nat} {w : World} {p : Int} (h8 : ¬ n ≤ 8) :
    Calls Try.prog 8 #[.slice A n ca, .int .u32 p] w fun e w' => e = .returned (.bool true) ∧ Below w.heap.size w w' := by
  have i8 : (8 : Int) < (n : Int) := by omega
  clear h8
  go_enter Try.func8, Try.ntmps8
  go_wp2_with fail
  refine (awake_any _).mono ?_
  rintro _ w9 ⟨rfl, b9⟩
  have B9 := Lib.hid b9
  clear b9
  go_wp2_with fail
  go_ret
  exact ⟨rfl, B9.out⟩
theorem lgtwice_walk (A : Option Addr) (n ca : Nat) (l : List PGa.Ord) (p : Int) (w : World) (h : SlO w A n l) (hp : (Lit.int .u32 p).wf = true) :
    Calls Try.prog 8 #[.slice A n ca, .int .u32 p] w fun e w' => e = .returned (.bool true) ∧ Below w.heap.size w w' := by
  by_cases h8 : n ≤ 8
  · exact lgtwice_in h h8 (u32_bounds hp).1 (u32_bounds hp).2
  · exact lgtwice_out h8
end Go.Proofs.Ytmmgejgmlhhfdaa
