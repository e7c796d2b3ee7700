/-
  Plain facts on amounts and their texts: digits, the text of an amount, the amount of a text. No program is named here.
-/
import Derived.Lib.ItoaNum
import Derived.Lib.ItoaLen
namespace PMoney
open Go

/-- 2^63 - 1. -/
def MM : Nat := 9223372036854775807

/-- Two digits. -/
def two (i : Nat) : List UInt8 := [UInt8.ofNat (48 + i / 10), UInt8.ofNat (48 + i % 10)]
theorem two_len (i : Nat) : (two i).length ≤ 2 := Nat.le_refl _
/-- The text of an amount from 0 on. -/
def textNat (u : Nat) : List UInt8 := Lib.decDigits (u / 100) ++ [46, UInt8.ofNat (48 + u % 100 / 10), UInt8.ofNat (48 + u % 10)]
/-- The text of an amount. -/
def text (n : Int) : List UInt8 := if n < 0 then 45 :: textNat n.natAbs else textNat n.natAbs

/-- One digit more. -/
def stepN (n : Nat) (c : UInt8) : Option Nat := if 48 ≤ c.toNat ∧ c.toNat ≤ 57 ∧ 10 * n + (c.toNat - 48) ≤ MM then some (10 * n + (c.toNat - 48)) else none
def appN : Nat → List UInt8 → Option Nat
  | n, [] => some n
  | n, c :: r => (stepN n c).bind fun k => appN k r

theorem appN_append (n : Nat) (a b : List UInt8) : appN n (a ++ b) = (appN n a).bind fun k => appN k b := by
  induction a generalizing n with
  | nil => rfl
  | cons c r ih =>
    simp only [List.cons_append, appN]
    cases stepN n c with
    | none => rfl
    | some k => simpa using ih k

theorem appN_snoc (n : Nat) (a : List UInt8) (c : UInt8) : appN n (a ++ [c]) = (appN n a).bind fun k => stepN k c := by
  rw [appN_append]
  cases appN n a with
  | none => rfl
  | some k => simp [appN]

theorem stepN_some {n k : Nat} {c : UInt8} (h : stepN n c = some k) : 48 ≤ c.toNat ∧ c.toNat ≤ 57 ∧ k = 10 * n + (c.toNat - 48) ∧ k ≤ MM := by
  unfold stepN at h
  split at h
  · rename_i hc; cases h; exact ⟨hc.1, hc.2.1, rfl, hc.2.2⟩
  · cases h

theorem ofNat_toNat (c : UInt8) (h : 48 ≤ c.toNat) : UInt8.ofNat (48 + (c.toNat - 48)) = c := by
  rw [show 48 + (c.toNat - 48) = c.toNat by omega]; simp

theorem digit_toNat (d : Nat) (h : d < 10) : (UInt8.ofNat (48 + d)).toNat = 48 + d := by
  rw [UInt8.toNat_ofNat']; omega

theorem stepN_digit (n d : Nat) (hd : d < 10) (h : 10 * n + d ≤ MM) : stepN n (UInt8.ofNat (48 + d)) = some (10 * n + d) := by
  unfold stepN
  rw [digit_toNat d hd, if_pos (by omega)]
  congr 1; omega

theorem dec_big (v d : Nat) (hv : 0 < v) (hd : d < 10) : Lib.decDigits (10 * v + d) = Lib.decDigits v ++ [UInt8.ofNat (48 + d)] := by
  rw [Lib.decDigits, dif_neg (by omega), show (10 * v + d) / 10 = v by omega, show (10 * v + d) % 10 = d by omega]
theorem dec_small (d : Nat) (hd : d < 10) : Lib.decDigits d = [UInt8.ofNat (48 + d)] := by
  rw [Lib.decDigits, dif_pos hd]

theorem dec_ne_nil (v : Nat) : Lib.decDigits v ≠ [] := by
  rw [Lib.decDigits]; split <;> simp

/-- Digits without a nought ahead are the digits of their number. -/
theorem dec_app : ∀ (r : List UInt8) (ds : List UInt8), r.reverse = ds → ds ≠ [] → ∀ v, appN 0 ds = some v → (ds.length = 1 ∨ ds.head? ≠ some 48) → Lib.decDigits v = ds
  | [], ds, hr, hne, _, _, _ => by simp at hr; exact absurd hr hne
  | c :: r, ds, hr, hne, v, hv, hz => by
    obtain rfl : ds = r.reverse ++ [c] := by simpa using hr.symm
    rw [appN_snoc] at hv
    obtain ⟨k, hk, hs⟩ := Option.bind_eq_some_iff.1 hv
    obtain ⟨h1, h2, rfl, _⟩ := stepN_some hs
    by_cases hnil : r.reverse = []
    · rw [hnil] at hk ⊢
      cases hk
      rw [show 10 * 0 + (c.toNat - 48) = c.toNat - 48 by omega, dec_small _ (by omega), ofNat_toNat c h1]; rfl
    · have hz' : r.reverse.head? ≠ some 48 := by
        rcases hz with hz | hz
        · exfalso; apply hnil
          rw [List.length_append] at hz
          exact List.eq_nil_of_length_eq_zero (by simpa using hz)
        · rw [List.head?_append] at hz
          intro e; apply hz; rw [e]; rfl
      have ih := dec_app r r.reverse rfl hnil k hk (Or.inr hz')
      have hk0 : 0 < k := by
        rcases Nat.eq_zero_or_pos k with h0 | h0
        · exfalso; apply hz'; rw [← ih, h0, dec_small 0 (by decide)]; rfl
        · exact h0
      rw [dec_big k _ hk0 (by omega), ih, ofNat_toNat c h1]

/-- The digits of a number have no nought ahead, but for 0. -/
theorem dec_head (v : Nat) : (Lib.decDigits v).length = 1 ∨ (Lib.decDigits v).head? ≠ some 48 := by
  induction v using Nat.strongRecOn with
  | _ v ih =>
    by_cases h : v < 10
    · left; rw [dec_small v h]; rfl
    · right
      rw [Lib.decDigits, dif_neg h, List.head?_append]
      by_cases h2 : v / 10 < 10
      · rw [dec_small _ h2]
        intro e
        simp only [List.head?_cons, Option.some_or, Option.some.injEq] at e
        have := congrArg UInt8.toNat e
        rw [digit_toNat _ h2] at this
        have h3 : (48 : UInt8).toNat = 48 := rfl
        omega
      · have h4 := ih (v / 10) (by omega)
        rcases h4 with h4 | h4
        · exfalso
          rw [Lib.decDigits, dif_neg h2, List.length_append] at h4
          have := dec_ne_nil (v / 10 / 10)
          have h5 : (Lib.decDigits (v / 10 / 10)).length ≠ 0 := fun e => this (List.eq_nil_of_length_eq_zero e)
          simp at h4; exact this h4
        · intro e; apply h4
          rcases hx : (Lib.decDigits (v / 10)).head? with _ | x
          · exfalso; exact dec_ne_nil _ (List.head?_eq_none_iff.1 hx)
          · rw [hx] at e; simpa using e

theorem app_dec (v : Nat) (h : v ≤ MM) : appN 0 (Lib.decDigits v) = some v := by
  induction v using Nat.strongRecOn with
  | _ v ih =>
    by_cases hs : v < 10
    · rw [dec_small v hs]
      simp only [appN]
      rw [stepN_digit 0 v hs (by omega)]; simp
    · rw [Lib.decDigits, dif_neg hs, appN_snoc, ih (v / 10) (by omega) (by omega), Option.bind_some, stepN_digit _ _ (by omega) (by omega)]
      congr 1; omega

/-- What is read behind a sign: digits, a dot, two digits. -/
def sizeOf (l : List UInt8) : Option Nat :=
  if 4 ≤ l.length ∧ l[l.length - 3]? = some 46 ∧ ¬ (4 < l.length ∧ l.head? = some 48)
  then (appN 0 (l.take (l.length - 3))).bind fun k => appN k (l.drop (l.length - 2)) else none

/-- What is read, noughts ahead allowed (as the reference reads). -/
def wideOf (l : List UInt8) : Option Nat :=
  if 4 ≤ l.length ∧ l[l.length - 3]? = some 46
  then (appN 0 (l.take (l.length - 3))).bind fun k => appN k (l.drop (l.length - 2)) else none

theorem parts {l : List UInt8} (h : 4 ≤ l.length) (hd : l[l.length - 3]? = some 46) : ∃ ds a b, ds ≠ [] ∧ l = ds ++ [46, a, b] ∧ l.take (l.length - 3) = ds ∧ l.drop (l.length - 2) = [a, b] ∧ ds.length = l.length - 3 := by
  refine ⟨l.take (l.length - 3), l[l.length - 2]'(by omega), l[l.length - 1]'(by omega), ?_, ?_, rfl, ?_, by simp⟩
  · intro e; have := congrArg List.length e; simp at this; omega
  · apply List.ext_getElem?
    intro i
    by_cases h1 : i < l.length - 3
    · rw [List.getElem?_append_left (by simp; omega), List.getElem?_take, if_pos h1]
    · rw [List.getElem?_append_right (by simp; omega)]
      rw [show (l.take (l.length - 3)).length = l.length - 3 by simp]
      obtain ⟨j, rfl⟩ : ∃ j, i = l.length - 3 + j := ⟨i - (l.length - 3), by omega⟩
      rw [show l.length - 3 + j - (l.length - 3) = j by omega]
      match j with
      | 0 => simpa using hd
      | 1 => rw [show l.length - 3 + 1 = l.length - 2 by omega]; simp
      | 2 => rw [show l.length - 3 + 2 = l.length - 1 by omega]; simp
      | j + 3 => rw [List.getElem?_eq_none (by omega)]; simp
  · apply List.ext_getElem?
    intro i
    rw [List.getElem?_drop]
    match i with
    | 0 => simp
    | 1 => rw [show l.length - 2 + 1 = l.length - 1 by omega]; simp
    | i + 2 => rw [List.getElem?_eq_none (by omega)]; simp

theorem textNat_of {ds : List UInt8} {a b : UInt8} {v u : Nat} (hu : appN v [a, b] = some u) (hd : Lib.decDigits v = ds) : textNat u = ds ++ [46, a, b] := by
  simp only [appN] at hu
  obtain ⟨k, hk, hu⟩ := Option.bind_eq_some_iff.1 hu
  obtain ⟨m, hm, hu⟩ := Option.bind_eq_some_iff.1 hu
  cases hu
  obtain ⟨a1, a2, rfl, _⟩ := stepN_some hk
  obtain ⟨b1, b2, rfl, _⟩ := stepN_some hm
  unfold textNat
  rw [show (10 * (10 * v + (a.toNat - 48)) + (b.toNat - 48)) / 100 = v by omega, show (10 * (10 * v + (a.toNat - 48)) + (b.toNat - 48)) % 100 / 10 = a.toNat - 48 by omega, show (10 * (10 * v + (a.toNat - 48)) + (b.toNat - 48)) % 10 = b.toNat - 48 by omega, hd, ofNat_toNat a a1, ofNat_toNat b b1]

theorem textNat_val {ds : List UInt8} {a b : UInt8} {v u : Nat} (hu : appN v [a, b] = some u) (ht : textNat u = ds ++ [46, a, b]) : Lib.decDigits v = ds := by
  simp only [appN] at hu
  obtain ⟨k, hk, hu⟩ := Option.bind_eq_some_iff.1 hu
  obtain ⟨m, hm, hu⟩ := Option.bind_eq_some_iff.1 hu
  cases hu
  obtain ⟨a1, a2, rfl, _⟩ := stepN_some hk
  obtain ⟨b1, b2, rfl, _⟩ := stepN_some hm
  unfold textNat at ht
  rw [show (10 * (10 * v + (a.toNat - 48)) + (b.toNat - 48)) / 100 = v by omega] at ht
  exact (List.append_inj' ht (by simp)).1

/-- The strict reading is the wide one of just those texts that are written. -/
theorem sizeOf_iff (l : List UInt8) (u : Nat) : sizeOf l = some u ↔ wideOf l = some u ∧ textNat u = l := by
  unfold sizeOf wideOf
  by_cases h : 4 ≤ l.length ∧ l[l.length - 3]? = some 46
  · obtain ⟨ds, a, b, hne, hl, ht, hdr, hlen⟩ := parts h.1 h.2
    rw [if_pos h, ht, hdr]
    constructor
    · intro e
      split at e
      · rename_i hc
        refine ⟨e, ?_⟩
        obtain ⟨v, hv, hu⟩ := Option.bind_eq_some_iff.1 e
        rw [hl]
        refine textNat_of hu (dec_app _ _ (List.reverse_reverse ds) hne v hv ?_)
        by_cases h1 : ds.length = 1
        · exact Or.inl h1
        · refine Or.inr fun e => hc.2.2 ⟨?_, ?_⟩
          · have : ds.length ≠ 0 := fun e => hne (List.eq_nil_of_length_eq_zero e)
            omega
          · rw [hl, List.head?_append, e]; rfl
      · cases e
    · rintro ⟨e, htx⟩
      obtain ⟨v, hv, hu⟩ := Option.bind_eq_some_iff.1 e
      have hd := textNat_val hu (htx.trans hl)
      refine (if_pos ⟨h.1, h.2, ?_⟩).trans e
      · rintro ⟨h4, h5⟩
        have := dec_head v
        rw [hd] at this
        rcases this with h6 | h6
        · omega
        · apply h6
          rw [hl, List.head?_append] at h5
          rcases hx : ds.head? with _ | x
          · exact absurd (List.head?_eq_none_iff.1 hx) hne
          · rw [hx] at h5; simpa using h5
  · rw [if_neg h, if_neg (fun hc => h ⟨hc.1, hc.2.1⟩)]
    simp

theorem textNat_length (u : Nat) : (textNat u).length = (Lib.decDigits (u / 100)).length + 3 := by unfold textNat; simp

theorem wideOf_text (u : Nat) (h : u ≤ MM) : wideOf (textNat u) = some u := by
  have hne : (Lib.decDigits (u / 100)).length ≠ 0 := fun e => dec_ne_nil _ (List.eq_nil_of_length_eq_zero e)
  unfold wideOf
  rw [textNat_length, show (Lib.decDigits (u / 100)).length + 3 - 3 = (Lib.decDigits (u / 100)).length by omega, show (Lib.decDigits (u / 100)).length + 3 - 2 = (Lib.decDigits (u / 100)).length + 1 by omega]
  unfold textNat
  rw [if_pos ⟨by omega, by simp⟩]
  rw [List.take_left' rfl, app_dec _ (by omega), Option.bind_some, ← List.drop_drop, List.drop_left' rfl]
  simp only [List.drop_succ_cons, List.drop_zero, appN]
  rw [stepN_digit (u / 100) (u % 100 / 10) (by omega) (by omega), Option.bind_some, stepN_digit _ _ (by omega) (by omega), Option.bind_some]
  congr 1; omega

theorem sizeOf_text (u : Nat) (h : u ≤ MM) : sizeOf (textNat u) = some u := (sizeOf_iff _ _).2 ⟨wideOf_text u h, rfl⟩

theorem textNat_head (u : Nat) : (textNat u).head? ≠ some 45 := by
  unfold textNat
  rw [List.head?_append]
  have hd : ∀ v, (Lib.decDigits v).head? ≠ some 45 ∧ (Lib.decDigits v).head? ≠ none := by
    intro v
    refine ⟨?_, fun e => dec_ne_nil _ (List.head?_eq_none_iff.1 e)⟩
    induction v using Nat.strongRecOn with
    | _ v ih =>
      by_cases h : v < 10
      · rw [dec_small v h]
        intro e
        simp only [List.head?_cons, Option.some.injEq] at e
        have := congrArg UInt8.toNat e
        rw [digit_toNat _ h] at this
        have h3 : (45 : UInt8).toNat = 45 := rfl
        omega
      · rw [Lib.decDigits, dif_neg h, List.head?_append]
        rcases hx : (Lib.decDigits (v / 10)).head? with _ | x
        · exact absurd (List.head?_eq_none_iff.1 hx) (dec_ne_nil _)
        · have := ih (v / 10) (by omega); rw [hx] at this; simpa using this
  rcases hx : (Lib.decDigits (u / 100)).head? with _ | x
  · exact absurd hx (hd _).2
  · have := (hd (u / 100)).1; rw [hx] at this; simpa using this

/-- Behind the sign. -/
def bare (l : List UInt8) : List UInt8 := if l.head? = some 45 then l.tail else l
/-- What money.Parse answers. -/
def parse (l : List UInt8) : Option Int :=
  (sizeOf (bare l)).bind fun u => if l.head? = some 45 then (if u = 0 then none else some (-(u : Int))) else some (u : Int)

theorem parse_some {l : List UInt8} {n : Int} (h : parse l = some n) : text n = l ∧ n.natAbs ≤ MM ∧ wideOf (bare l) = some n.natAbs := by
  unfold parse at h
  obtain ⟨u, hu, h⟩ := Option.bind_eq_some_iff.1 h
  obtain ⟨hw, ht⟩ := (sizeOf_iff _ _).1 hu
  have hb : u ≤ MM := by
    unfold wideOf at hw
    split at hw
    · rename_i hc
      obtain ⟨ds, a, b, hne, hl, h1, hdr, hlen⟩ := parts hc.1 hc.2
      obtain ⟨v, hv, hw⟩ := Option.bind_eq_some_iff.1 hw
      rw [hdr] at hw
      simp only [appN] at hw
      obtain ⟨k, hk, hw⟩ := Option.bind_eq_some_iff.1 hw
      obtain ⟨m, hm, hw⟩ := Option.bind_eq_some_iff.1 hw
      cases hw
      exact (stepN_some hm).2.2.2
    · cases hw
  unfold bare at ht hw ⊢
  split at h
  · rename_i hm
    rw [if_pos hm] at ht hw ⊢
    split at h
    · cases h
    · cases h
      have e : (-(u : Int)).natAbs = u := by omega
      rw [e]
      refine ⟨?_, hb, hw⟩
      unfold text
      rw [if_pos (by omega), e, ht]
      cases l with
      | nil => cases hm
      | cons c r => simp at hm; subst hm; rfl
  · rename_i hm
    rw [if_neg hm] at ht hw ⊢
    cases h
    have e : (u : Int).natAbs = u := by omega
    rw [e]
    refine ⟨?_, hb, hw⟩
    unfold text
    rw [if_neg (by omega), e, ht]

theorem bare_text (n : Int) : bare (text n) = textNat n.natAbs := by
  unfold text bare
  split
  · simp
  · rw [if_neg (textNat_head _)]

theorem text_minus (n : Int) : (text n).head? = some 45 ↔ n < 0 := by
  unfold text
  split
  · simp [*]
  · simp [*, textNat_head]

theorem parse_text (n : Int) (h : n.natAbs ≤ MM) : parse (text n) = some n := by
  unfold parse
  rw [bare_text, sizeOf_text _ h, Option.bind_some]
  by_cases hn : n < 0
  · rw [if_pos ((text_minus n).2 hn), if_neg (by omega)]; congr 1; omega
  · rw [if_neg (fun e => hn ((text_minus n).1 e))]; congr 1; omega

/-- What the reference answers: the wide reading, signed, held against the text of it. -/
theorem parse_iff (l : List UInt8) (n : Int) : parse l = some n ↔ (wideOf (bare l) = some n.natAbs ∧ text n = l ∧ n.natAbs ≤ MM) := by
  constructor
  · intro h; obtain ⟨a, b, c⟩ := parse_some h; exact ⟨c, a, b⟩
  · rintro ⟨_, h, hb⟩; rw [← h]; exact parse_text n hb
end PMoney
