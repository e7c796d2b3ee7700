/-
  Pieces in a block of the call's own, of which they may leave a rest free: what they hold, through stores.
  What the library's slices.Reverse answers for pieces: the row is turned round where it stands.
-/
import Derived.Test.YtdkcdgjpcojdfaaGreatDoorSP
import Derived.Test.YtdkcdgjpcojdfaaGreatDoorRR

set_option linter.unusedVariables false
namespace Go.Proofs.YtdkcdgjpcojdfaaGreatDoor
open Go.RowKit
open PShow (Pc)
open Rev (Rv)

def PcRow (w : World) (g : Nat) (L : List Pc) : Prop := ∀ i x, L[i]? = some x → w.cell? ⟨g, i * 2, none⟩ = some (.string ⟨x.1.toArray⟩) ∧ w.cell? ⟨g, i * 2 + 1, none⟩ = some (.int .i64 x.2) ∧ w.frozen? ⟨g, i * 2, none⟩ = false ∧ w.frozen? ⟨g, i * 2 + 1, none⟩ = false
theorem PcRow.put {w : World} {g : Nat} {L : List Pc} (h : PcRow w g L) {i : Nat} (hi : i < L.length) (x : Pc) : PcRow ((w.setCell ⟨g, i * 2, none⟩ (.string ⟨x.1.toArray⟩)).setCell ⟨g, i * 2 + 1, none⟩ (.int .i64 x.2)) g (L.set i x) := by
  intro j y hy
  obtain ⟨a0, a1, -, -⟩ := h i L[i] (List.getElem?_eq_getElem hi)
  have hj : j < L.length := by have := (List.getElem?_eq_some_iff.1 hy).1; rwa [List.length_set] at this
  obtain ⟨-, -, f0, f1⟩ := h j L[j] (List.getElem?_eq_getElem hj)
  rw [box_frozen_set, box_frozen_set, box_frozen_set, box_frozen_set]
  refine ⟨?_, ?_, f0, f1⟩
  · rw [World.cell?_setCell_other _ _ _ _ (by intro c; simp only [Addr.mk.injEq] at c; omega)]
    by_cases e : j = i
    · subst e
      rw [List.getElem?_set_self hi] at hy
      cases hy
      exact World.cell?_setCell_same _ _ _ a0
    · rw [List.getElem?_set_ne (Ne.symm e)] at hy
      rw [World.cell?_setCell_other _ _ _ _ (by intro c; simp only [Addr.mk.injEq] at c; omega)]
      exact (h j y hy).1
  · by_cases e : j = i
    · subst e
      rw [List.getElem?_set_self hi] at hy
      cases hy
      exact World.cell?_setCell_same _ _ _ ((World.cell?_setCell_other _ _ _ _ (by intro c; simp only [Addr.mk.injEq] at c; omega)).trans a1)
    · rw [List.getElem?_set_ne (Ne.symm e)] at hy
      rw [World.cell?_setCell_other _ _ _ _ (by intro c; simp only [Addr.mk.injEq] at c; omega), World.cell?_setCell_other _ _ _ _ (by intro c; simp only [Addr.mk.injEq] at c; omega)]
      exact (h j y hy).2.1
theorem pcRow_own {w : World} {base n : Nat} {v : Value} {L : List Pc} (h : w.ownsRow base 174 2 v n (pcR.cells L)) (hl : L.length = n) (hn : n ≠ 0) : ∃ g c, v = .slice (some ⟨g, 0, none⟩) n c ∧ base ≤ g ∧ n ≤ c ∧ PcRow w g L := by
  rcases h.2 with ⟨rfl, rfl⟩ | ⟨g, cap, cur, rfl, hg, hh, h1, h2, _⟩
  · exact absurd rfl hn
  · refine ⟨g, cap, rfl, hg, h1, fun i x hx => ?_⟩
    obtain ⟨hi, rfl⟩ := List.getElem?_eq_some_iff.1 hx
    have c0 := h.cells (g := g) rfl _ _ (pcR.cells_get L i hi 0 _ rfl)
    have c1 := h.cells (g := g) rfl _ _ (pcR.cells_get L i hi 1 _ rfl)
    rw [addr_add] at c0 c1
    exact ⟨c0, c1, Lib.frozen_of_heap hh _, Lib.frozen_of_heap hh _⟩
theorem PcRow.sl {w : World} {g : Nat} {L : List Pc} (h : PcRow w g L) : SlX pcR w (some ⟨g, 0, none⟩) L.length L :=
  ⟨rfl, .inr ⟨g, 0, rfl, fun i hi j v e => by
    obtain ⟨c0, c1, -, -⟩ := h i L[i] (List.getElem?_eq_getElem hi)
    rw [Nat.zero_add]
    match j, e with
    | 0, e => cases e; exact c0
    | 1, e => cases e; exact c1⟩⟩
end Go.Proofs.YtdkcdgjpcojdfaaGreatDoor

set_option linter.unusedVariables false
namespace Go.Proofs.YtdkcdgjpcojdfaaGreatDoor
open Go.RowKit
open PShow (Pc)
open Rev (Rv)

set_option maxHeartbeats 3200000 in
set_option maxRecDepth 100000 in
theorem krev_any {w : World} {g n c : Nat} {l : List Pc} (h : PcRow w g l) (hl : l.length = n) (hn : n ≤ 1000) (hc : n ≤ c) :
    Calls Tryz.prog 109 #[.slice (some ⟨g, 0, none⟩) n c] w fun e w' => e = .returned (.tuple #[]) ∧ PcRow w' g l.reverse ∧ Only g w w' := by
  have H0 := Lib.hid h
  have HL := Lib.hid hl
  clear h hl
  go_enter Tryz.func109, Tryz.ntmps109
  go_wp2_with fail
  go_loopw [2, 3] (fun i j wx => ∃ k : Nat, ∃ L : List Pc, i = .int .i64 k ∧ j = .int .i64 ((n : Int) - 1 - k) ∧ k ≤ n ∧ Hid (Rv l k L) ∧ Hid (PcRow wx g L) ∧ Hid (Only g w wx)) (fun i _ _ => n - (intOf i).toNat)
  case atStart => exact ⟨0, l, rfl, by congr 1; omega, Nat.zero_le _, Lib.hid (Rev.rv_zero l), H0, Lib.hid (Only.refl _ _)⟩
  case round =>
    obtain ⟨k, L, rfl, rfl, hk, I1, I2, I3⟩ := hrel
    by_cases hkl : (k : Int) < (n : Int) - 1 - k
    · have hkn : k < l.length - 1 - k := by rw [HL.out]; omega
      have hLl := I1.out.1
      obtain ⟨x, hx⟩ : ∃ x, L[k]? = some x := ⟨_, List.getElem?_eq_getElem (by omega)⟩
      obtain ⟨y, hy⟩ : ∃ y, L[l.length - 1 - k]? = some y := ⟨_, List.getElem?_eq_getElem (by omega)⟩
      have J1 := Lib.hid (Rev.rv_step I1.out hkn hx hy)
      obtain ⟨jn, hjn⟩ : ∃ jn, l.length - 1 - k = jn := ⟨_, rfl⟩
      have hj : (n : Int) - 1 - k = (jn : Int) := by have := HL.out; omega
      rw [hjn] at hy J1
      obtain ⟨a0, a1, b0, b1⟩ := I2.out k x hx
      obtain ⟨c0, c1, d0, d1⟩ := I2.out jn y hy
      have P1 := PcRow.put I2.out (i := k) (by omega) y
      have P2 := Lib.hid (PcRow.put P1 (i := jn) (by rw [List.length_set]; omega) x)
      rw [hj]
      rw [hj] at hkl
      have gk : (k : Int) < (n : Int) := by omega
      have gj : (jn : Int) < (n : Int) := by omega
      obtain ⟨x1, x2⟩ := x
      obtain ⟨y1, y2⟩ := y
      clear hx hy P1 hkn hjn I1 I2 hLl
      simp only at a0 a1 c0 c1 P2
      have hne : ¬ (k : Int) = (jn : Int) := by omega
      have O := ((((I3.out.set (k * 2) (.string ⟨y1.toArray⟩)).set (k * 2 + 1) (.int .i64 y2)).set (jn * 2) (.string ⟨x1.toArray⟩)).set (jn * 2 + 1) (.int .i64 x2))
      have HO := Lib.hid O
      clear O
      go_upto_region 3 with fail
      go_region
      all_goals
        go_wp2_with fail
        exact ⟨⟨k + 1, _, by congr 1, by congr 1; omega, by omega, J1, Lib.hid (show PcRow _ _ _ from P2.out), Lib.hid ⟨HO.out.1, HO.out.2, HO.out.3, fun p q => (HO.out.4 p q).drew⟩⟩, by simp [intOf]; omega⟩
    · have E := Rev.rv_end I1.out (by rw [HL.out]; omega)
      have HR := Lib.hid (E ▸ I2.out)
      clear I1 I2 E H0
      go_wp2_with fail
      go_end0
      exact ⟨rfl, HR.out, I3.out⟩
end Go.Proofs.YtdkcdgjpcojdfaaGreatDoor
