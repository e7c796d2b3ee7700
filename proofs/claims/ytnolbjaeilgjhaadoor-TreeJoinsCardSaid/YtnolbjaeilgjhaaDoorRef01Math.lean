/-
  The reference's way to read an amount, byte by byte, against the plain one.
-/
import Derived.Test.YtnolbjaeilgjhaaDoorMoneyMath
namespace PMoney
open Go

/-- One byte of a text of L bytes, the j-th: the dot at its place, or a digit. -/
def rstep (L j m : Nat) (c : UInt8) : Option Nat := if j + 3 = L then (if c = 46 then some m else none) else stepN m c
/-- What is read of the first j bytes. -/
def racc (l : List UInt8) : Nat → Option Nat
  | 0 => some 0
  | j + 1 => (racc l j).bind fun m => (l[j]?).bind fun c => rstep l.length j m c

theorem racc_next {l : List UInt8} {j m : Nat} {c : UInt8} (h : racc l j = some m) (hc : l[j]? = some c) : racc l (j + 1) = rstep l.length j m c := by
  simp only [racc, h, hc, Option.bind_some]
theorem racc_none {l : List UInt8} {j : Nat} (h : racc l j = none) : ∀ k, racc l (j + k) = none
  | 0 => h
  | k + 1 => by
    show (racc l (j + k)).bind _ = none
    rw [racc_none h k]; rfl
theorem racc_none' {l : List UInt8} {j : Nat} (h : racc l j = none) (hj : j ≤ l.length) : racc l l.length = none := by
  have := racc_none h (l.length - j)
  rwa [show j + (l.length - j) = l.length by omega] at this
theorem take_snoc_get {l : List UInt8} {j : Nat} {c : UInt8} (h : l[j]? = some c) : l.take (j + 1) = l.take j ++ [c] := by
  obtain ⟨hl, he⟩ := List.getElem?_eq_some_iff.1 h
  rw [List.take_succ_eq_append_getElem hl, he]
theorem racc_front (l : List UInt8) : ∀ j, j + 3 ≤ l.length → racc l j = appN 0 (l.take j)
  | 0, _ => rfl
  | j + 1, h => by
    have hj : j < l.length := by omega
    have hc : l[j]? = some l[j] := List.getElem?_eq_getElem hj
    rw [take_snoc_get hc, appN_snoc, ← racc_front l j (by omega)]
    show (racc l j).bind _ = _
    rw [hc]
    congr 1
    funext m
    show rstep l.length j m l[j] = _
    unfold rstep
    rw [if_neg (by omega)]
theorem racc_wide (l : List UInt8) (h : 4 ≤ l.length) : racc l l.length = wideOf l := by
  obtain ⟨n, hn⟩ : ∃ n, l.length = n + 3 := ⟨l.length - 3, by omega⟩
  have h0 : l[n]? = some l[n] := List.getElem?_eq_getElem (by omega)
  have h1 : l[n + 1]? = some l[n + 1] := List.getElem?_eq_getElem (by omega)
  have h2 : l[n + 2]? = some l[n + 2] := List.getElem?_eq_getElem (by omega)
  have e : racc l (n + 3) = (((racc l n).bind fun m => rstep l.length n m l[n]).bind fun m => rstep l.length (n + 1) m l[n + 1]).bind fun m => rstep l.length (n + 2) m l[n + 2] := by
    show ((((racc l n).bind _).bind _).bind _) = _
    rw [h0, h1, h2]; rfl
  have hd : l.drop (l.length - 2) = [l[n + 1], l[n + 2]] := by
    apply List.ext_getElem?
    intro i
    rw [List.getElem?_drop, show l.length - 2 + i = n + 1 + i by omega]
    match i with
    | 0 => simp
    | 1 => exact h2
    | i + 2 => rw [List.getElem?_eq_none (by omega)]; simp
  have ht : l.take (l.length - 3) = l.take n := by rw [show l.length - 3 = n by omega]
  have hdot : l[l.length - 3]? = some l[n] := by rw [show l.length - 3 = n by omega]; exact h0
  unfold wideOf
  rw [hd, ht, hdot]
  conv => lhs; rw [show racc l l.length = racc l (n + 3) by rw [hn]]
  rw [e, racc_front l n (by omega)]
  cases hap : appN 0 (l.take n) with
  | none => simp
  | some v =>
    simp only [Option.bind_some]
    have r0 : rstep l.length n v l[n] = if l[n] = 46 then some v else none := by unfold rstep; rw [if_pos (by omega)]
    rw [r0]
    by_cases hc : l[n] = 46
    · rw [if_pos hc, if_pos ⟨h, by rw [hc]⟩]
      simp only [Option.bind_some]
      have r1 : ∀ m, rstep l.length (n + 1) m l[n + 1] = stepN m l[n + 1] := fun m => by unfold rstep; rw [if_neg (by omega)]
      have r2 : ∀ m, rstep l.length (n + 2) m l[n + 2] = stepN m l[n + 2] := fun m => by unfold rstep; rw [if_neg (by omega)]
      rw [r1]
      simp only [appN]
      cases stepN v l[n + 1] with
      | none => rfl
      | some k =>
        simp only [Option.bind_some]
        rw [r2]
        cases stepN k l[n + 2] with
        | none => rfl
        | some q => rfl
    · rw [if_neg hc, if_neg (fun hx => hc (by have := hx.2; injection this))]
      rfl
theorem rstep_le {L j m k : Nat} {c : UInt8} (hm : m ≤ MM) (h : rstep L j m c = some k) : k ≤ MM := by
  unfold rstep at h
  split at h
  · split at h
    · cases h; exact hm
    · cases h
  · exact (stepN_some h).2.2.2

/-- Where the byte-by-byte reading fails there is no amount. -/
theorem parse_none_of {l : List UInt8} (h : racc (bare l) (bare l).length = none) : parse l = none := by
  rcases hp : parse l with _ | n
  · rfl
  · obtain ⟨h1, _, h3⟩ := parse_some hp
    have h4 : 4 ≤ (bare l).length := by unfold wideOf at h3; split at h3; · rename_i hc; exact hc.1
                                        · cases h3
    rw [racc_wide _ h4, h3] at h
    cases h
theorem parse_none_short {l : List UInt8} (h : (bare l).length < 4) : parse l = none := by
  unfold parse sizeOf
  rw [if_neg (by omega)]; rfl
/-- Where it is read, the amount is there just if its text is the text. -/
theorem parse_yes {l : List UInt8} {m : Nat} {n : Int} (h : racc (bare l) (bare l).length = some m) (h4 : 4 ≤ (bare l).length) (hn : n.natAbs = m) (hm : m ≤ MM) (ht : text n = l) : parse l = some n :=
  (parse_iff l n).2 ⟨by rw [← racc_wide _ h4, h, hn], ht, by omega⟩
theorem parse_no {l : List UInt8} {m : Nat} {n : Int} (h : racc (bare l) (bare l).length = some m) (h4 : 4 ≤ (bare l).length) (hn : n = if l.head? = some 45 then -(m : Int) else (m : Int)) (ht : text n ≠ l) : parse l = none := by
  rcases hp : parse l with _ | k
  · rfl
  · exfalso
    obtain ⟨h1, _, h3⟩ := parse_some hp
    rw [← racc_wide _ h4, h] at h3
    injection h3 with h3
    have hs := text_minus k
    rw [h1] at hs
    apply ht
    rw [← h1]
    congr 1
    by_cases hk : k < 0
    · rw [if_pos (hs.2 hk)] at hn; omega
    · rw [if_neg (fun e => hk (hs.1 e))] at hn; omega
end PMoney
