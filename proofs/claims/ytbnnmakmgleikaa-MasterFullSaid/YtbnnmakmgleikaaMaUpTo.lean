/-
  How many records have a period that is not behind a given one: what the landed master answers.
-/
import Derived.Test.YtbnnmakmgleikaaMaSmall
import Derived.BigQuiet
import Derived.Deep.QuietTactic
set_option linter.unusedVariables false
namespace Go.Proofs.Ytbnnmakmgleikaa
open Go.RowKit

theorem below_drewM (w : World) (q : Nat) : Below w.heap.size w (w.drewN q) := ⟨rfl, rfl, rfl, Nat.le_refl _, fun _ _ => rfl⟩
set_option maxHeartbeats 3200000 in
theorem ucmp_any {w : World} {H1 H2 : Nat} {A : Option Addr} {n c : Nat} {l : List PMa.Rcd} {t : Int} {i : Nat} {r : PMa.Rcd} (h1 : w.cell? ⟨H1, 0, none⟩ = some (.slice A n c)) (h2 : w.cell? ⟨H2, 0, none⟩ = some (.int .i64 t)) (hS : SlX rcdR w A n l) (hi : i < n) (hr : l[i]? = some r) :
    Calls Try.prog 47 #[.int .i64 i, .pointer (some ⟨H1, 0, none⟩), .pointer (some ⟨H2, 0, none⟩)] w (FlagM (decide (t < r.frm)) w) := by
  obtain ⟨Q, hQ⟩ : ∃ Q, FlagM (decide (t < r.frm)) w = Q := ⟨_, rfl⟩
  rw [hQ]
  have F : Hid (∀ w', Below w.heap.size w w' → Q (.returned (.bool (decide (t < r.frm)))) w') := Lib.hid (fun w' hb => by rw [← hQ]; exact ⟨rfl, hb⟩)
  obtain ⟨b, o, rfl, -⟩ := hS.at hi
  obtain ⟨l0, l1, l2, l3, l4, l5, l6⟩ := rcd_cell hS hi hr
  have hs1 := World.block_lt_of_cell? w _ h1
  have hs2 := World.block_lt_of_cell? w _ h2
  have hsl := World.block_lt_of_cell? w _ l0
  have g0 : (0 : Int) ≤ (i : Int) := by omega
  have g1 : (i : Int) < (n : Int) := by omega
  clear hQ hS hr
  go_enter Try.func47, Try.ntmps47
  go_upto_region 1 with fail
  go_quiet (fail)
  have BQ := Lib.hid (below_drewM w nq)
  go_wp2_with fail
  exact F.out _ BQ.out
set_option maxRecDepth 100000 in
set_option maxHeartbeats 6400000 in
theorem search_any {w : World} {H1 H2 : Nat} {A : Option Addr} {n c : Nat} {l : List PMa.Rcd} {t : Int} (h1 : w.cell? ⟨H1, 0, none⟩ = some (.slice A n c)) (h2 : w.cell? ⟨H2, 0, none⟩ = some (.int .i64 t)) (hS : SlX rcdR w A n l) (hn : n ≤ 1000000) (hU : PMa.Up l) :
    Calls Try.prog 46 #[.int .i64 n, .func (.func 47) #[] #[.pointer (some ⟨H1, 0, none⟩), .pointer (some ⟨H2, 0, none⟩)]] w (IntM (PMa.upTo l t : Nat) w) := by
  obtain ⟨Q, hQ⟩ : ∃ Q, IntM (PMa.upTo l t : Nat) w = Q := ⟨_, rfl⟩
  rw [hQ]
  have hl : l.length = n := hS.1
  have F : Hid (∀ w', Below w.heap.size w w' → Q (.returned (.int .i64 (PMa.upTo l t : Nat))) w') := Lib.hid (fun w' hb => by rw [← hQ]; exact ⟨rfl, hb⟩)
  have HS := Lib.hid hS; have HL := Lib.hid hl; have HU := Lib.hid hU; have HC1 := Lib.hid h1; have HC2 := Lib.hid h2
  have gn : (n : Int) ≤ 1000000 := by omega
  clear hQ hS hl hU h1 h2
  go_enter Try.func46, Try.ntmps46
  go_wp2_with fail
  go_loopw [5, 6] (fun i j wr => ∃ a b : Nat, i = .int .i64 a ∧ j = .int .i64 b ∧ a ≤ b ∧ b ≤ n ∧ Hid (∀ (k : Nat) (r : PMa.Rcd), k < a → l[k]? = some r → r.frm ≤ t) ∧ Hid (∀ (k : Nat) (r : PMa.Rcd), b ≤ k → l[k]? = some r → t < r.frm) ∧ Hid (Below w.heap.size w wr)) (fun i j _ => (intOf j).toNat - (intOf i).toNat)
  case atStart => exact ⟨0, n, rfl, rfl, Nat.zero_le _, Nat.le_refl _, Lib.hid (fun k r h => absurd h (Nat.not_lt_zero _)), Lib.hid (fun k r h h2 => by
    have := (List.getElem?_eq_some_iff.1 h2).1
    have := HL.out
    omega), Lib.hid (Below.refl _ _)⟩
  case round =>
    obtain ⟨a, b, rfl, rfl, hab, hbn, J1, J2, J3⟩ := hrel
    by_cases hlt : a < b
    · have g1 : (a : Int) < (b : Int) := by omega
      have gw1 : IntKind.i64.wrap ((a : Int) + (b : Int)) = (a : Int) + (b : Int) := by rw [IntKind.wrap_i64]; omega
      obtain ⟨h, hh⟩ : ∃ h : Nat, ((a : Int) + (b : Int)) / 2 = (h : Int) := ⟨(a + b) / 2, by omega⟩
      have hah : a ≤ h := by omega
      have hhb : h < b := by omega
      have hhn : h < n := by omega
      obtain ⟨r, hr⟩ : ∃ r, l[h]? = some r := ⟨_, List.getElem?_eq_getElem (by rw [HL.out]; exact hhn)⟩
      have CP := Lib.hid (ucmp_any ((J3.out.cell (World.block_lt_of_cell? w _ HC1.out)).trans HC1.out) ((J3.out.cell (World.block_lt_of_cell? w _ HC2.out)).trans HC2.out) (HS.out.on J3.out) hhn hr)
      have HR := Lib.hid hr
      clear hr
      by_cases hzz : t < r.frm
      · rw [decide_eq_true hzz] at CP
        have K2 : Hid (∀ (k : Nat) (r : PMa.Rcd), h ≤ k → l[k]? = some r → t < r.frm) := Lib.hid (fun k r' hk hr' => by
          by_cases e : k = h
          · subst e; rw [HR.out] at hr'; cases hr'; exact hzz
          · have := HU.out h k r r' (by omega) HR.out hr'
            omega)
        clear hzz
        go_wp2_with (go_at_call 47; refine CP.out.mono ?_)
        intro e2 w2 h2
        obtain ⟨rfl, b2⟩ := h2
        have B2 := Lib.hid (below_step J3.out b2)
        clear b2 CP
        go_wp2_with fail
        exact ⟨⟨a, h, rfl, rfl, hah, by omega, J1, K2, B2⟩, by simp [intOf]; omega⟩
      · rw [decide_eq_false hzz] at CP
        have K1 : Hid (∀ (k : Nat) (r : PMa.Rcd), k < h + 1 → l[k]? = some r → r.frm ≤ t) := Lib.hid (fun k r' hk hr' => by
          by_cases e : k = h
          · subst e; rw [HR.out] at hr'; cases hr'; omega
          · have := HU.out k h r' r (by omega) hr' HR.out
            omega)
        clear hzz
        go_wp2_with (go_at_call 47; refine CP.out.mono ?_)
        intro e2 w2 h2
        obtain ⟨rfl, b2⟩ := h2
        have B2 := Lib.hid (below_step J3.out b2)
        clear b2 CP
        go_wp2_with fail
        exact ⟨⟨h + 1, b, by congr 1, rfl, by omega, hbn, K1, J2, B2⟩, by simp [intOf]; omega⟩
    · obtain rfl : a = b := by omega
      have g1 : ¬ (a : Int) < (a : Int) := by omega
      have HP : Hid (PMa.upTo l t = a) := Lib.hid (PMa.lead_eq (by rw [HL.out]; exact hbn) (fun i x hi hx => by simpa using J1.out i x hi hx) (fun x hx => by simpa using J2.out a x (Nat.le_refl _) hx))
      rw [HP.out] at F
      go_wp2_with fail
      exact F.out _ J3.out
set_option maxHeartbeats 3200000 in
theorem kupto_any {w : World} {A : Option Addr} {n c : Nat} {l : List PMa.Rcd} (hS : SlX rcdR w A n l) (hn : n ≤ 1000000) (hU : PMa.Up l) (t : Int) :
    Calls Try.prog 34 #[.slice A n c, .int .i64 t] w (IntM (PMa.upTo l t : Nat) w) := by
  obtain ⟨Q, hQ⟩ : ∃ Q, IntM (PMa.upTo l t : Nat) w = Q := ⟨_, rfl⟩
  rw [hQ]
  have F : Hid (∀ w', Below w.heap.size w w' → Q (.returned (.int .i64 (PMa.upTo l t : Nat))) w') := Lib.hid (fun w' hb => by rw [← hQ]; exact ⟨rfl, hb⟩)
  obtain ⟨w1, hw1, X1, b1⟩ : ∃ w1, w.alloc (.cells #[.slice A n c] 50) = w1 ∧ Box w1 w.heap.size [.slice A n c] ∧ Below w.heap.size w w1 := ⟨_, rfl, Box.new _ _ [.slice A n c], (Below.refl _ _).alloc (Nat.le_refl _) _⟩
  obtain ⟨w2, hw2, X2, b2⟩ : ∃ w2, w1.alloc (.cells #[.int .i64 t] 3) = w2 ∧ Box w2 w1.heap.size [.int .i64 t] ∧ Below w1.heap.size w1 w2 := ⟨_, rfl, Box.new _ _ [.int .i64 t], (Below.refl _ _).alloc (Nat.le_refl _) _⟩
  have hs1 : w1.heap.size = w.heap.size + 1 := by rw [← hw1]; simp
  rw [hs1] at X2
  have y0 : w2.cell? ⟨w.heap.size, 0, none⟩ = some (.slice A n c) := (X1.on b2).c 0 rfl
  have y1 : w2.cell? ⟨w.heap.size + 1, 0, none⟩ = some (.int .i64 t) := X2.c 0 rfl
  have hsx : w.heap.size < w2.heap.size := (X1.on b2).1
  have C := Lib.hid (search_any y0 y1 ((hS.on b1).on b2) hn hU)
  have HW1 := Lib.hid hw1; have HW2 := Lib.hid hw2; have B2 := Lib.hid (below_step b1 b2)
  obtain ⟨p, hp⟩ : ∃ p, PMa.upTo l t = p := ⟨_, rfl⟩
  rw [hp] at F C
  clear hQ hw1 hw2 X1 X2 b1 b2 hS hU hs1 hp
  go_enter Try.func34, Try.ntmps34
  go_upto_region 1 with fail
  rw [HW1.out, HW2.out]
  clear HW1 HW2
  go_wp2_with (go_at_call 46; refine C.out.mono ?_)
  intro e3 w3 h3
  obtain ⟨rfl, b3'⟩ := h3
  have B3 := Lib.hid (below_step B2.out b3')
  clear b3' C
  go_wp2_with fail
  exact F.out _ B3.out
end Go.Proofs.Ytbnnmakmgleikaa
