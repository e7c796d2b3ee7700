/-
  What is left to claim: garnish.Paid.
-/
import Derived.Test.YtmmgejgmlhhfdaaGaKit
import Derived.Test.YtmmgejgmlhhfdaaRowKit
import Derived.Test.YtmmgejgmlhhfdaaGaServe
import Derived.Lib.SliceRun
import Derived.Laws.OwnMore
namespace Go.Proofs.Ytmmgejgmlhhfdaa
open Go.RowKit

theorem ord_recTy : RecTy ordR 35 22 32 where
  info := ⟨.agg #[.int .i64 0, .int .i64 0, .int .i64 0, .int .i64 0], by kernel_rfl, rfl⟩
  under := Try.underlying22
  few := by decide
/-- Orders in a block of the call's own. -/
def RwO (w : World) (g : Nat) (L : List PGa.Ord) : Prop := ∀ j v, (ordR.cells L)[j]? = some v → w.cell? ⟨g, j, none⟩ = some v ∧ w.frozen? ⟨g, j, none⟩ = false
theorem RwO.on {w w' : World} {g : Nat} {L : List PGa.Ord} (h : RwO w g L) (hb : Below w.heap.size w w') : RwO w' g L := fun j v e => by
  have hlt := World.block_lt_of_cell? w _ (h j v e).1
  exact ⟨(hb.cell (p := ⟨g, j, none⟩) hlt).trans (h j v e).1, (hb.frozen (p := ⟨g, j, none⟩) hlt).trans (h j v e).2⟩
theorem RwO.at {w : World} {g : Nat} {L : List PGa.Ord} (h : RwO w g L) {i : Nat} (hi : i < L.length) : w.cell? ⟨g, i * 4 + 3, none⟩ = some (.int .i64 L[i].ba) ∧ w.frozen? ⟨g, i * 4 + 3, none⟩ = false :=
  h _ _ (ordR.cells_get L i hi 3 _ rfl)
theorem RwO.store {w : World} {g : Nat} {L : List PGa.Ord} (h : RwO w g L) {i : Nat} (hi : i < L.length) (x : Int) : RwO (w.setCell ⟨g, i * 4 + 3, none⟩ (.int .i64 x)) g (L.set i ⟨L[i].c, L[i].p, L[i].cl, x⟩) := by
  intro j v e
  obtain ⟨i', hi', q, rfl, hq⟩ := ordR.cells_at _ j v e
  have hi2 : i' < L.length := by simpa using hi'
  have hk : ordR.k = 4 := rfl
  rw [hk]
  have hq4 : q < 4 := by have := (List.getElem?_eq_some_iff.1 hq).1; rw [ordR.len] at this; exact this
  have hfr : (w.setCell ⟨g, i * 4 + 3, none⟩ (.int .i64 x)).frozen? ⟨g, i' * 4 + q, none⟩ = w.frozen? ⟨g, i' * 4 + q, none⟩ := frozen_set _ _ _ _
  by_cases hii : i' = i
  · subst hii
    rw [List.getElem_set_self] at hq
    by_cases hq3 : q = 3
    · subst hq3
      have hv : v = .int .i64 x := by simpa [ordR] using hq.symm
      subst hv
      exact ⟨World.cell?_setCell_same _ _ _ (h.at hi2).1, by rw [hfr]; exact (h.at hi2).2⟩
    · have hq2 : (ordR.C L[i'])[q]? = some v := by
        match q, hq4, hq3 with
        | 0, _, _ => exact hq
        | 1, _, _ => exact hq
        | 2, _, _ => exact hq
        | 3, _, h3 => exact absurd rfl h3
      have := h _ _ (ordR.cells_get L i' hi2 q v hq2)
      rw [hk] at this
      exact ⟨by rw [World.cell?_setCell_other _ _ _ _ (by intro c; simp only [Addr.mk.injEq] at c; omega)]; exact this.1, by rw [hfr]; exact this.2⟩
  · rw [List.getElem_set_ne (fun e => hii e.symm)] at hq
    have := h _ _ (ordR.cells_get L i' hi2 q v hq)
    rw [hk] at this
    exact ⟨by rw [World.cell?_setCell_other _ _ _ _ (by intro c; simp only [Addr.mk.injEq] at c; omega)]; exact this.1, by rw [hfr]; exact this.2⟩
theorem RwO.slx {w : World} {g n : Nat} {L : List PGa.Ord} (h : RwO w g L) (hn : L.length = n) : SlX ordR w (some ⟨g, 0, none⟩) n L :=
  ⟨hn, .inr ⟨g, 0, rfl, fun i hi j v e => by rw [Nat.zero_add]; exact (h _ _ (ordR.cells_get L i hi j v e)).1⟩⟩
theorem rwo_of_own {w : World} {base n g cap : Nat} {L : List PGa.Ord} (h : w.ownsRow base 35 4 (.slice (some ⟨g, 0, none⟩) n cap) n (ordR.cells L)) : RwO w g L :=
  fun j v e => ⟨by have := h.cells (g := g) rfl _ _ e; rw [addr_add] at this; exact this, h.frozenAt j⟩

theorem own_none4 (w : World) : (w.alloc (.cells #[] 35)).ownsRow w.heap.size 35 4 (.slice (some ⟨w.heap.size, 0, none⟩) 0 0) 0 (ordR.cells []) := by
  have := World.ownsRow_lit (base := w.heap.size) (e := 35) (size := 4) w #[] 0 (Nat.le_refl _) (by unfold maxLen; omega) (by simp)
  exact this

set_option maxRecDepth 100000 in
/-- A copy: a row of its own. -/
theorem gaclone_some {ad : Addr} {n c : Nat} {l : List PGa.Ord} {w : World} (hs : SlO w (some ad) n l) (hn : n ≤ 900) :
    Calls Try.prog 22 #[.slice (some ad) n c] w fun e w' => ∃ B cap, e = .returned (.slice B n cap) ∧ (B = none → cap = 0 ∧ n = 0) ∧ (∀ ad, B = some ad → ∃ g, ad = ⟨g, 0, none⟩ ∧ w.heap.size ≤ g ∧ RwO w' g l) ∧ Below w.heap.size w w' := by
  have q22 : ∀ (w : World) (a : Option Addr) (n c n' c' : Nat), (binOp .eql 22 (.slice a n c) (.slice none n' c')).run Try.prog w = .ok (.bool a.isNone) w := fun w a n c n' c' => Lib.run_eql_slice_nil w _ _ a n c n' c' Try.underlying22
  have HS2 := Lib.hid ((hs.on ((Below.refl w.heap.size w).alloc (Nat.le_refl _) (.cells #[] 35))).1)
  have HO := Lib.hid (own_none4 w)
  have hl := Lib.hid hs.len
  clear hs
  go_enter Try.func22, Try.ntmps22
  go_wp2_with (at_builtin; refine append_recs ord_recTy rfl _ _ rfl w.heap.size _ [] (by rfl) HO.out (some ad) n c l (by rfl) (fun e => by cases e) HS2.out (by simp; omega) (by simp) ?_)
  intro v' w1 hown hb
  have HO1 := Lib.hid hown
  have B1 := Lib.hid (((Below.refl w.heap.size w).alloc (Nat.le_refl _) (.cells #[] 35)).trans hb)
  obtain ⟨B, cap, rfl, hB, hg⟩ : ∃ B cap, v' = .slice B n cap ∧ (B = none → cap = 0 ∧ n = 0) ∧ (∀ ad, B = some ad → ∃ g, ad = ⟨g, 0, none⟩ ∧ w.heap.size ≤ g ∧ RwO w1 g l) := by
    have hown' : w1.ownsRow w.heap.size 35 4 v' n (ordR.cells l) := by
      exact hown
    rcases hown'.2 with ⟨e, e2⟩ | ⟨g, cap, cur, e, hg, _⟩
    · subst e2; exact ⟨none, 0, e, fun _ => ⟨rfl, rfl⟩, fun ad e => by cases e⟩
    · subst e; exact ⟨_, cap, rfl, (fun e => by cases e), fun ad e => by cases e; exact ⟨g, rfl, hg, rwo_of_own hown'⟩⟩
  have HG := Lib.hid hg; have HB := Lib.hid hB
  clear hown hb HO HS2 HO1 hg hB
  go_wp2_with fail
  go_ret
  exact ⟨B, cap, rfl, HB.out, HG.out, B1.out⟩
/-- What is left of an order. -/
def PGa.cut (o : PGa.Ord) (x : Int) : PGa.Ord := ⟨o.c, o.p, o.cl, o.ba - x⟩
def PGa.PaidOk (l : List PGa.Ord) (ps : List Int) : Prop := ps.length = l.length ∧ ∀ i (h : i < l.length), 0 ≤ ps.getD i 0 ∧ ps.getD i 0 ≤ l[i].ba
/-- The first k orders have been paid. -/
def PGa.CutTo (l : List PGa.Ord) (ps : List Int) (k : Nat) (L : List PGa.Ord) : Prop := L.length = l.length ∧ ∀ i (h : i < l.length) (h2 : i < L.length), L[i] = if i < k then PGa.cut l[i] (ps.getD i 0) else l[i]
theorem PGa.CutTo.next {l L : List PGa.Ord} {ps : List Int} {k : Nat} (h : PGa.CutTo l ps k L) (hk : k < l.length) (hk2 : k < L.length) : PGa.CutTo l ps (k + 1) (L.set k ⟨L[k].c, L[k].p, L[k].cl, l[k].ba - ps.getD k 0⟩) := by
  obtain ⟨h1, h2⟩ := h
  refine ⟨by rw [List.length_set]; exact h1, fun i hi hi2 => ?_⟩
  have hi3 : i < L.length := by simpa using hi2
  by_cases e : i = k
  · subst e
    rw [List.getElem_set_self, if_pos (by omega), h2 i hi hi3, if_neg (by omega)]
    rfl
  · rw [List.getElem_set_ne (fun k => e k.symm), h2 i hi hi3]
    by_cases h : i < k
    · rw [if_pos h, if_pos (by omega)]
    · rw [if_neg h, if_neg (by omega)]
/-- What Paid answers. -/
def PaidC (l : List PGa.Ord) (ps : List Int) (n : Nat) (w : World) (e : Ending) (w' : World) : Prop := Below w.heap.size w w' ∧
  ((PGa.PaidOk l ps ∧ ∃ B c L, e = .returned (.tuple #[.slice B n c, .bool true]) ∧ (B = none → c = 0) ∧ PGa.CutTo l ps n L ∧ SlO w' B n L ∧ ∀ ad, B = some ad → w.heap.size ≤ ad.block) ∨
   (¬ PGa.PaidOk l ps ∧ e = .returned (.tuple #[.slice none 0 0, .bool false])))

set_option maxHeartbeats 3200000 in
set_option maxRecDepth 100000 in
theorem gapaid_any {A P : Option Addr} {n ca np cp : Nat} {l : List PGa.Ord} {ps : List Int} {w : World} (h : SlO w A n l) (hA : A = none → ca = 0) (hn : n ≤ 40) (hp : Sl w P np ps) (hnp : np ≤ 1000) :
    Calls Try.prog 15 #[.slice A n ca, .slice P np cp] w (PaidC l ps n w) := by
  have H := Lib.hid h
  have hlen := h.len
  have hl := Lib.hid hlen
  have HP := Lib.hid hp
  have hpl := hp.1
  by_cases hne : np = n
  · subst hne
    have e0 : ((np : Int) != (np : Int)) = false := bne_self_eq_false _
    have HC : Hid (∀ w', Below w.heap.size w w' → Calls Try.prog 22 #[.slice A np ca] w' fun e w'' => ∃ B cap, e = .returned (.slice B np cap) ∧ (B = none → cap = 0 ∧ np = 0) ∧ (∀ ad, B = some ad → ∃ g, ad = ⟨g, 0, none⟩ ∧ w'.heap.size ≤ g ∧ RwO w'' g l) ∧ Below w'.heap.size w' w'') := Lib.hid (fun w' hb => by
      cases A with
      | some ad => exact gaclone_some (h.on hb) (by omega)
      | none =>
        obtain rfl := hA rfl
        have h0 : np = 0 := by
          rcases h.1.2 with h | ⟨b, off, e, _⟩
          · exact h
          · cases e
        subst h0
        have q22 : ∀ (w : World) (a : Option Addr) (n c n' c' : Nat), (binOp .eql 22 (.slice a n c) (.slice none n' c')).run Try.prog w = .ok (.bool a.isNone) w := fun w a n c n' c' => Lib.run_eql_slice_nil w _ _ a n c n' c' Try.underlying22
        clear h hp H HP hl hlen hpl hb
        go_enter Try.func22, Try.ntmps22
        go_wp2_with fail
        go_ret
        exact ⟨none, 0, rfl, (fun _ => by first | rfl | exact ⟨rfl, rfl⟩), (fun ad e => by cases e), Below.refl _ _⟩)
    have HPL := Lib.hid (show ps.length = l.length by omega)
    clear h hp hpl hlen hA
    go_enter Try.func15, Try.ntmps15
    go_wp2_with fail
    refine (HC.out _ (Below.refl _ _)).mono ?_
    rintro _ w2 ⟨B, cap, rfl, hB, hg, b2⟩
    have HB := Lib.hid hB; have HG := Lib.hid hg; have B2 := Lib.hid b2
    clear hB hg b2 HC
    go_wp2_with fail
    go_loopw [18] (fun i wr => ∃ (k : Nat) (L : List PGa.Ord), k ≤ np ∧ i = .int .i64 k ∧ Hid (PGa.CutTo l ps k L) ∧ Hid (∀ i (h : i < l.length), i < k → 0 ≤ ps.getD i 0 ∧ ps.getD i 0 ≤ l[i].ba) ∧ Hid (∀ ad, B = some ad → ∃ g, ad = ⟨g, 0, none⟩ ∧ w.heap.size ≤ g ∧ RwO wr g L) ∧ Hid (Below w.heap.size w wr)) (fun i _ => np - (intOf i).toNat)
    case atStart => exact ⟨0, l, Nat.zero_le _, rfl, (show Hid _ from ⟨rfl, fun i _ _ => by rw [if_neg (by omega)]⟩), (show Hid _ from fun i _ h => by omega), HG, B2⟩
    case round =>
      clear HG B2
      obtain ⟨k, L, hk, rfl, HL, HK, HG, HW⟩ := hrel
      by_cases hlt : k < np
      · obtain ⟨bP, oP, rfl, hcP⟩ := ga_at (HP.out.on HW.out) hlt
        have c1 := hcP k hlt
        obtain ⟨b, off, rfl, hc⟩ := (H.out.on HW.out).cells hlt
        have hkl : k < l.length := by rw [hl.out]; exact hlt
        obtain ⟨-, -, -, d3⟩ := hc k hkl
        have hin := (H.out.2.1 k hkl).2.2.2
        obtain ⟨x, hx⟩ : ∃ x, ps.getD k 0 = x := ⟨_, rfl⟩
        obtain ⟨y, hy⟩ : ∃ y, l[k].ba = y := ⟨_, rfl⟩
        rw [hx] at c1; rw [hy] at d3 hin
        have HX := Lib.hid hx; have HY := Lib.hid hy
        have i1 : (0 : Int) ≤ (k : Int) := by omega
        have i2 : (k : Int) < (np : Int) := by omega
        clear hc hcP hx hy
        by_cases g1 : x < 0
        · have HF : Hid (¬ PGa.PaidOk l ps) := Lib.hid (fun h => by have := (h.2 k hkl).1; rw [HX.out] at this; omega)
          go_wp2_with fail
          go_ret2
          exact ⟨HW.out, .inr ⟨HF.out, rfl⟩⟩
        by_cases g2 : y < x
        · have HF : Hid (¬ PGa.PaidOk l ps) := Lib.hid (fun h => by have := (h.2 k hkl).2; rw [HX.out, HY.out] at this; omega)
          go_wp2_with fail
          go_ret2
          exact ⟨HW.out, .inr ⟨HF.out, rfl⟩⟩
        · obtain ⟨adB, rfl⟩ : ∃ ad, B = some ad := by
            cases B with
            | none => have := (HB.out rfl).2; omega
            | some ad => exact ⟨ad, rfl⟩
          obtain ⟨g, rfl, hgw, hrw⟩ := HG.out _ rfl
          have hkL : k < L.length := by rw [HL.out.1]; exact hkl
          obtain ⟨c2, c3⟩ := hrw.at hkL
          have hLk : L[k].ba = y := by rw [HL.out.2 k hkl hkL, if_neg (by omega), HY.out]
          rw [hLk] at c2
          have e1 : IntKind.i64.wrap (y - x) = y - x := by rw [IntKind.wrap_i64]; omega
          have HG2 : Hid (∀ ad, some (⟨g, 0, none⟩ : Addr) = some ad → ∃ g', ad = ⟨g', 0, none⟩ ∧ w.heap.size ≤ g' ∧ RwO (wr.setCell ⟨g, k * 4 + 3, none⟩ (.int .i64 (y - x))) g' (L.set k ⟨L[k].c, L[k].p, L[k].cl, y - x⟩)) := Lib.hid (fun ad e => by cases e; exact ⟨g, rfl, hgw, hrw.store hkL _⟩)
          have HW2 : Hid (Below w.heap.size w (wr.setCell ⟨g, k * 4 + 3, none⟩ (.int .i64 (y - x)))) := Lib.hid (HW.out.setCell hgw _)
          have HL2 : Hid (PGa.CutTo l ps (k + 1) (L.set k ⟨L[k].c, L[k].p, L[k].cl, y - x⟩)) := Lib.hid (by have := HL.out.next hkl hkL; rw [HX.out, HY.out] at this; exact this)
          have HK2 : Hid (∀ i (h : i < l.length), i < k + 1 → 0 ≤ ps.getD i 0 ∧ ps.getD i 0 ≤ l[i].ba) := Lib.hid (fun i hi h => by
            by_cases e : i = k
            · subst e; rw [HX.out, HY.out]; omega
            · exact HK.out i hi (by omega))
          clear hrw hLk hin
          go_wp2_with fail
          exact ⟨⟨k + 1, _, by omega, by congr 1, HL2, HK2, HG2, HW2⟩, by simp [intOf]; omega⟩
      · obtain rfl : k = np := by omega
        have HF : Hid (PGa.PaidOk l ps) := Lib.hid ⟨HPL.out, fun i hi => HK.out i hi (by rw [← hl.out]; exact hi)⟩
        have HIN : Hid (∀ i (h : i < L.length), PGa.In L[i]) := Lib.hid (fun i hi => by
          have hil : i < l.length := by rw [← HL.out.1]; exact hi
          have hb := HF.out.2 i hil
          obtain ⟨q1, q2, q3, q4⟩ := H.out.2.1 i hil
          rw [HL.out.2 i hil hi]
          split
          · exact ⟨q1, q2, q3, by unfold PGa.cut; show _ ∧ _; simp only; omega⟩
          · exact ⟨q1, q2, q3, q4⟩)
        have HS : Hid (SlO wr B k L) := Lib.hid (by
          have hLn : L.length = k := by rw [HL.out.1, hl.out]
          refine ⟨?_, HIN.out, by omega⟩
          cases B with
          | none => exact ⟨hLn, .inl (HB.out rfl).2⟩
          | some ad => obtain ⟨g, rfl, _, hr⟩ := HG.out _ rfl; exact hr.slx hLn)
        have HFR : Hid (∀ ad, B = some ad → w.heap.size ≤ ad.block) := Lib.hid (fun ad e => by obtain ⟨g, rfl, hg, _⟩ := HG.out ad e; exact hg)
        have HBC : Hid (B = none → cap = 0) := Lib.hid (fun e => (HB.out e).1)
        go_wp2_with fail
        go_ret2
        exact ⟨HW.out, .inl ⟨HF.out, B, cap, L, rfl, HBC.out, HL.out, HS.out, HFR.out⟩⟩
  · have e0 : ((n : Int) != (np : Int)) = true := by rw [bne_iff_ne]; omega
    have HF : Hid (¬ PGa.PaidOk l ps) := Lib.hid (fun h => hne (by have := h.1; omega))
    clear h hp hpl hlen hne hA
    go_enter Try.func15, Try.ntmps15
    go_wp2_with fail
    go_ret2
    exact ⟨Below.refl _ _, .inr ⟨HF.out, rfl⟩⟩
end Go.Proofs.Ytmmgejgmlhhfdaa
