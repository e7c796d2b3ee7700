/-
  What the landed show answers: the text of one expression of any program, or an error.
-/
import Derived.Test.YtpakepapjnakgaaDoorShowTextOfG

set_option linter.unusedVariables false
namespace Go.Proofs.YtpakepapjnakgaaDoor
open Go.RowKit
open PCheck (Xp)
open PTree (R Ex Tr Rl Row)

/-- The text of the expression there, if the program has a text, and there is one. -/
def exprOf (E : List Xp) (RL : List Rw) (i : Int) : Option (List UInt8) := if (textOf E RL).isSome = true ∧ 0 ≤ i ∧ i < (E.length : Int) then some (PShow.tx E i.toNat) else none
set_option maxHeartbeats 12800000 in
set_option maxRecDepth 100000 in
theorem kexpr_any {w : World} {n c rn rc : Nat} {i : Int} {A RA : Option Addr} {E : List Xp} {RL : List Rw} (hR : SlX rlR w RA rn RL) (hE : SlX xpR w A n E) (ht : Tab w) (hn9 : n ≤ 990) (hrn : rn ≤ 1000)
    (hv : ∀ x ∈ E, -9223372036854775808 ≤ x.value ∧ x.value ≤ 9223372036854775807) (hc : inOrd E RL = true → (∀ r ∈ RL, PShow.cnt E r.2.2.toNat < 10000) ∧ (PShow.linesTx E RL).length ≤ 4000)
    (hx : inOrd E RL = true → ∀ k, k < n → PShow.cnt E k < 10000 ∧ (PShow.tx E k).length ≤ 100000000000) :
    Calls Tryd.prog 13 #[.agg #[.slice RA rn rc, .slice A n c], .int .i64 i] w (TextAns (exprOf E RL i) w) := by
  obtain ⟨Q, hQ⟩ : ∃ Q, TextAns (exprOf E RL i) w = Q := ⟨_, rfl⟩
  rw [hQ]
  have BAD : Hid (∀ w', exprOf E RL i = none → Below w.heap.size w w' → Q (.returned (.tuple #[.string { data := #[] }, .int .i64 1])) w') := Lib.hid (fun w' e a => by rw [← hQ, e]; exact ⟨rfl, a⟩)
  have GOOD : Hid (∀ w' t, exprOf E RL i = some t → Below w.heap.size w w' → Q (.returned (.tuple #[.string ⟨t.toArray⟩, .int .i64 0])) w') := Lib.hid (fun w' t e a => by rw [← hQ, e]; exact ⟨rfl, a⟩)
  have hEn : E.length = n := hE.1
  obtain ⟨w1, hw1, XB, b1⟩ : ∃ w1, w.alloc (.cells #[.slice RA rn rc, .slice A n c] 26) = w1 ∧ Box w1 w.heap.size [.slice RA rn rc, .slice A n c] ∧ Below w.heap.size w w1 := ⟨_, rfl, Box.new _ _ [.slice RA rn rc, .slice A n c], (Below.refl _ _).alloc (Nat.le_refl _) _⟩
  have HE := Lib.hid (hE.on b1); have HT := Lib.hid (ht.on b1); have HXB := Lib.hid XB; have B1 := Lib.hid b1; have HW1 := Lib.hid hw1; have HV := Lib.hid hv; have HX := Lib.hid hx; have HEN := Lib.hid hEn
  have TX := Lib.hid (ktext_any (rc := rc) (c := c) (hR.on b1) HE.out HT.out hn9 hrn hv hc)
  obtain ⟨x0, x1⟩ := px2 XB
  have hsx := XB.1
  clear hR hE ht XB b1 hw1 hv hc hx hQ hEn
  go_enter Tryd.func13, Tryd.ntmps13
  go_upto_region 1 with fail
  rw [HW1.out]
  go_wp2_with (go_at_call 10; refine TX.out.mono ?_)
  intro e2 w2 h2
  obtain ⟨h2, b2⟩ := h2
  have X2 := HXB.out.on b2
  have E2 := Lib.hid (HE.out.on b2); have T2 := Lib.hid (HT.out.on b2); have HX2 := Lib.hid X2
  have B2 := Lib.hid (below_step B1.out b2)
  clear b2 x0 x1 hsx TX HE HT HXB
  obtain ⟨x0, x1⟩ := px2 X2
  have hsx := X2.1
  clear X2
  cases ht : textOf E RL with
  | none =>
    rw [ht] at h2
    subst h2
    have HN : Hid (exprOf E RL i = none) := Lib.hid (by unfold exprOf; rw [if_neg]; rintro ⟨h, -⟩; rw [ht] at h; cases h)
    clear ht
    go_wp2_with fail
    exact BAD.out _ HN.out B2.out
  | some t =>
    rw [ht] at h2
    subst h2
    have HTO := Lib.hid ht
    clear ht
    by_cases h0 : i < 0
    · have HN : Hid (exprOf E RL i = none) := Lib.hid (by unfold exprOf; rw [if_neg]; rintro ⟨-, h, -⟩; omega)
      go_wp2_with fail
      exact BAD.out _ HN.out B2.out
    by_cases h1 : i < (n : Int)
    · obtain ⟨k, rfl⟩ : ∃ k : Nat, i = k := ⟨i.toNat, by omega⟩
      have hk : k < n := by omega
      have hio : inOrd E RL = true := by
        have h := HTO.out
        unfold textOf at h
        cases hi : inOrd E RL with
        | true => rfl
        | false => rw [hi] at h; cases h
      have hA := (PShow.ord_all (of_decide_eq_true hio)).1
      obtain ⟨hc1, hc2⟩ := HX.out hio k hk
      have HN : Hid (exprOf E RL (k : Int) = some (PShow.tx E k)) := Lib.hid (by
        unfold exprOf; rw [if_pos ⟨by rw [HTO.out]; rfl, by omega, by rw [HEN.out]; omega⟩, Int.toNat_natCast])
      have h1' : ¬ ((n : Int) ≤ (k : Int)) := by omega
      obtain ⟨w3, hw3⟩ : ∃ w3, w2.alloc (.cells #[.pointer none, .slice none 0 0] 66) = w3 := ⟨_, rfl⟩
      have bl3 : Bld w2.heap.size w2.heap.size [] w3 := by rw [← hw3]; exact bld_new w2
      have b3 : Below w2.heap.size w2 w3 := by rw [← hw3]; exact (Below.refl _ _).alloc (Nat.le_refl _) _
      have hs3 : w2.heap.size < w3.heap.size := by rw [← hw3]; simp
      have WR := Lib.hid (kwrite_any (c := c) bl3 (Nat.le_of_lt hs3) (fun w' hb => ⟨E2.out.on (b3.trans hb), T2.out.on (b3.trans hb)⟩) hA HV.out hk hc1 (by simp only [List.length_nil]; omega))
      have X3 := HX2.out.on b3
      have HB3 := Lib.hid b3; have HW3 := Lib.hid hw3; have HS3 := Lib.hid hs3
      clear hio hA hc1 hc2 bl3 b3 hw3 hs3 HX2
      obtain ⟨y0, y1⟩ := px2 X3
      have hsy := X3.1
      clear X3
      go_upto_region 7 with fail
      rw [HW3.out]
      go_wp2_with (go_at_call 20; refine WR.out.mono ?_)
      intro e4 w4 h4
      obtain ⟨rfl, bl4, b4⟩ := h4
      have ST := Lib.hid (Tryd.Builder_String_any_k w2.heap.size w2.heap.size ([] ++ PShow.tx E k) w4 bl4 (by have := HS3.out; have := b4.size; omega))
      have B4 := Lib.hid (HB3.out.trans b4)
      clear bl4 b4 WR x0 x1 hsx y0 y1 hsy
      go_wp2_with (go_at_call 21; refine ST.out.mono ?_)
      intro e5 w5 h5
      obtain ⟨rfl, -, b5, -⟩ := h5
      have B5 := Lib.hid (below_step B2.out (B4.out.trans b5))
      clear b5 ST
      go_wp2_with fail
      exact GOOD.out _ _ HN.out B5.out
    · have HN : Hid (exprOf E RL i = none) := Lib.hid (by unfold exprOf; rw [if_neg]; rintro ⟨-, -, h⟩; rw [HEN.out] at h; omega)
      have h1' : (n : Int) ≤ i := by omega
      go_wp2_with fail
      exact BAD.out _ HN.out B2.out
end Go.Proofs.YtpakepapjnakgaaDoor
