/-
  Words of a text: one step, all of them; what stands behind a word turns nothing of it. Plain facts; no program is named here.
  Words of a text: each is a word by itself; one blank apart, and in lines, they are the words; their places. Plain facts.
  Plain facts on amounts and their texts: digits, the text of an amount, the amount of a text. No program is named here.
  Plain facts on rates and their texts. No program is named here.
  Runs, words and kinds of layer 7, as facts on lists of bytes. No program is named here.
  Rules as trees: what a text of tokens is read to, or the place of what is wrong. Plain facts; no program is named here.
  What a token of each kind is: amounts, rates, whole numbers. Plain facts; no program is named here.
  Rule sets: rules one behind the other; the program of a text. Plain facts; no program is named here.
  Words of a text by the reference's own lists of bytes: letters, letters and digits, runs, signs; the step at a place.
  Tokens of the same kinds and texts are read to the same rules, or to the same error. Plain facts; no program is named here.
  The text of an amount: digits, and two behind the dot. Plain facts; no function of the program is named here.
  The text of a rate: how long it is. Plain facts; no function of the program is named here.
-/
import Derived.Test.YtdkcdgjpcojdfaaGreatDoorBase
import Derived.Lib.ItoaNum
import Derived.Lib.ItoaLen
import Derived.Lib.Strings
import Derived.ProofKit
import Derived.OpenShut
import Derived.ChangeOld
import Derived.Below
import Derived.Lib.Atoi
import Derived.Lib.AppendIntMem

namespace PLex

def isLet (c : UInt8) : Bool := 97 ≤ c.toNat && c.toNat ≤ 122
def isDig (c : UInt8) : Bool := 48 ≤ c.toNat && c.toNat ≤ 57
def isAl (c : UInt8) : Bool := isLet c || isDig c
def isRun (c : UInt8) : Bool := isDig c || c == 46 || c == 37
def isSgn (c : UInt8) : Bool := c == 61 || c == 60 || c == 62 || c == 43 || c == 45 || c == 42 || c == 40 || c == 41 || c == 44 || c == 59
def two (c : UInt8) (r : List UInt8) : Bool := match r with
  | [] => false
  | d :: _ => (c == 60 && (d == 61 || d == 62)) || (c == 62 && d == 61)
def step (K : List UInt8 → Nat) : List UInt8 → Nat × Nat
  | [] => (0, 1)
  | c :: r =>
    if c = 32 ∨ c = 10 then (6, 1)
    else if c = 35 then (6, 1 + (r.takeWhile (fun d => d != 10)).length)
    else if isLet c = true then (if 1 + (r.takeWhile isAl).length < 13 then 1 else 0, 1 + (r.takeWhile isAl).length)
    else if isDig c = true then (K (c :: r.takeWhile isRun), 1 + (r.takeWhile isRun).length)
    else if isSgn c = true then (5, if two c r = true then 2 else 1)
    else (0, 1)
structure Tok where
  kind : Nat
  text : List UInt8
  at_ : Nat
deriving DecidableEq
def run (K : List UInt8 → Nat) : Nat → Nat → List UInt8 → Option Nat × List Tok
  | 0, _, _ => (none, [])
  | _ + 1, _, [] => (none, [])
  | f + 1, p, c :: r =>
    if (step K (c :: r)).1 = 0 then (some p, [])
    else
      let n := (step K (c :: r)).2
      let q := run K f (p + n) ((c :: r).drop n)
      if (step K (c :: r)).1 = 6 then q else (q.1, ⟨(step K (c :: r)).1, (c :: r).take n, p⟩ :: q.2)
theorem run_nil (K : List UInt8 → Nat) (f p : Nat) : run K f p [] = (none, []) := by cases f <;> rfl

theorem takeWhile_len {p : UInt8 → Bool} : ∀ (l : List UInt8), (l.takeWhile p).length ≤ l.length
  | [] => Nat.le_refl _
  | c :: r => by
    rw [List.takeWhile_cons]
    by_cases h : p c = true
    · rw [if_pos h]; have := takeWhile_len (p := p) r; simp; omega
    · rw [if_neg h]; simp
theorem step_len (K : List UInt8 → Nat) (c : UInt8) (r : List UInt8) : 1 ≤ (step K (c :: r)).2 ∧ (step K (c :: r)).2 ≤ (c :: r).length := by
  have h1 := takeWhile_len (p := fun d => d != 10) r
  have h2 := takeWhile_len (p := isAl) r
  have h3 := takeWhile_len (p := isRun) r
  simp only [step, List.length_cons]
  (repeat' split) <;> try (simp only []; omega)
  · rename_i h
    cases r with
    | nil => cases h
    | cons d r => simp
theorem run_more (K : List UInt8 → Nat) : ∀ (f g p : Nat) (l : List UInt8), l.length ≤ f → l.length ≤ g → run K f p l = run K g p l
  | f, g, p, [], _, _ => by rw [run_nil, run_nil]
  | 0, _, _, _ :: _, h, _ => by simp at h
  | _, 0, _, _ :: _, _, h => by simp at h
  | f + 1, g + 1, p, c :: r, hf, hg => by
    have hs := step_len K c r
    have hd : ((c :: r).drop (step K (c :: r)).2).length ≤ r.length := by rw [List.length_drop, List.length_cons]; omega
    simp only [List.length_cons] at hf hg
    have := run_more K f g (p + (step K (c :: r)).2) ((c :: r).drop (step K (c :: r)).2) (by omega) (by omega)
    simp only [run]
    rw [this]
def all (K : List UInt8 → Nat) (p : Nat) (l : List UInt8) : Option Nat × List Tok := run K l.length p l
theorem all_nil (K : List UInt8 → Nat) (p : Nat) : all K p [] = (none, []) := rfl
theorem all_cons (K : List UInt8 → Nat) (p : Nat) (c : UInt8) (r : List UInt8) : all K p (c :: r) =
    if (step K (c :: r)).1 = 0 then (some p, [])
    else if (step K (c :: r)).1 = 6 then all K (p + (step K (c :: r)).2) ((c :: r).drop (step K (c :: r)).2)
    else ((all K (p + (step K (c :: r)).2) ((c :: r).drop (step K (c :: r)).2)).1, ⟨(step K (c :: r)).1, (c :: r).take (step K (c :: r)).2, p⟩ :: (all K (p + (step K (c :: r)).2) ((c :: r).drop (step K (c :: r)).2)).2) := by
  have hs := step_len K c r
  have hd : ((c :: r).drop (step K (c :: r)).2).length ≤ r.length := by rw [List.length_drop, List.length_cons]; omega
  unfold all
  have := run_more K r.length ((c :: r).drop (step K (c :: r)).2).length (p + (step K (c :: r)).2) ((c :: r).drop (step K (c :: r)).2) hd (Nat.le_refl _)
  rw [List.length_cons, run]
  simp only []
  rw [this]

theorem takeWhile_sep {p : UInt8 → Bool} {b : UInt8} (hb : p b = false) (r t : List UInt8) : (r ++ b :: t).takeWhile p = r.takeWhile p := by
  induction r with
  | nil => simp [hb]
  | cons c r ih =>
    rw [List.cons_append, List.takeWhile_cons, List.takeWhile_cons, ih]
def Sep (b : UInt8) : Prop := isAl b = false ∧ isRun b = false ∧ b ≠ 61 ∧ b ≠ 62
theorem sep_line : Sep 10 := by unfold Sep; decide
theorem two_sep {b c : UInt8} (hb : Sep b) (r t : List UInt8) : two c (r ++ b :: t) = two c r := by
  obtain ⟨_, _, h1, h2⟩ := hb
  cases r with
  | nil => simp [two, h1, h2]
  | cons d r => rfl
theorem step_sep (K : List UInt8 → Nat) {b c : UInt8} (hb : Sep b) (hc : c ≠ 35 ∨ b = 10) (r t : List UInt8) : step K (c :: (r ++ b :: t)) = step K (c :: r) := by
  have h2 := takeWhile_sep hb.1 r t
  have h3 := takeWhile_sep hb.2.1 r t
  have h4 := two_sep (c := c) hb r t
  simp only [step]
  rw [h2, h3, h4]
  by_cases h : c = 35
  · subst h
    obtain rfl : b = 10 := hc.resolve_left (fun k => k rfl)
    have h1 := takeWhile_sep (p := fun d => d != 10) (b := 10) rfl r t
    rw [h1]
  · simp only [h, if_false]
theorem takeWhile_again {p : UInt8 → Bool} (l : List UInt8) : (l.takeWhile p).takeWhile p = l.takeWhile p := by
  induction l with
  | nil => rfl
  | cons c r ih =>
    rw [List.takeWhile_cons]
    by_cases h : p c = true
    · rw [if_pos h, List.takeWhile_cons, if_pos h, ih]
    · rw [if_neg h]; rfl
theorem take_takeWhile {p : UInt8 → Bool} (l : List UInt8) : l.take (l.takeWhile p).length = l.takeWhile p := by
  induction l with
  | nil => rfl
  | cons c r ih =>
    rw [List.takeWhile_cons]
    by_cases h : p c = true
    · rw [if_pos h]; simp [ih]
    · rw [if_neg h]; rfl
theorem step_tok {K : List UInt8 → Nat} {c : UInt8} {r : List UInt8} (h0 : (step K (c :: r)).1 ≠ 0) (h6 : (step K (c :: r)).1 ≠ 6) :
    (c ≠ 32 ∧ c ≠ 10 ∧ c ≠ 35) ∧ step K ((c :: r).take (step K (c :: r)).2) = step K (c :: r) := by
  have h1 : ¬ (c = 32 ∨ c = 10) := by intro k; apply h6; simp only [step]; rw [if_pos k]
  have h2 : c ≠ 35 := by intro k; apply h6; simp only [step]; rw [if_neg h1, if_pos k]
  refine ⟨⟨fun k => h1 (.inl k), fun k => h1 (.inr k), h2⟩, ?_⟩
  simp only [step, if_neg h1, if_neg h2] at h0 h6 ⊢
  by_cases hl : isLet c = true
  · simp only [if_pos hl, Nat.add_comm 1, List.take_succ_cons, take_takeWhile]
    simp only [if_neg h1, if_neg h2, takeWhile_again]
  · by_cases hd : isDig c = true
    · simp only [if_neg hl, if_pos hd, Nat.add_comm 1, List.take_succ_cons, take_takeWhile]
      simp only [if_neg h1, if_neg h2, takeWhile_again]
    · by_cases hg : isSgn c = true
      · simp only [if_neg hl, if_neg hd, if_pos hg]
        by_cases ht : two c r = true
        · rw [if_pos ht]
          cases r with
          | nil => cases ht
          | cons d r =>
            have ht' : two c [d] = true := ht
            simp only [List.take_succ_cons, List.take_zero, if_neg h1, if_neg h2, if_neg hl, if_neg hd, if_pos hg, if_pos ht']
        · rw [if_neg ht]
          have ht' : ¬ two c [] = true := by simp [two]
          simp only [List.take_succ_cons, List.take_zero, if_neg h1, if_neg h2, if_neg hl, if_neg hd, if_pos hg, if_neg ht']
      · simp only [if_neg hl, if_neg hd, if_neg hg] at h0
        exact absurd rfl h0
end PLex

namespace PLex

def Lone (K : List UInt8 → Nat) (k : Nat) (u : List UInt8) : Prop := ∃ c r, u = c :: r ∧ step K u = (k, u.length) ∧ (k ≠ 0 ∧ k ≠ 6) ∧ c ≠ 35
theorem lone_of {K : List UInt8 → Nat} {c : UInt8} {r : List UInt8} (h0 : (step K (c :: r)).1 ≠ 0) (h6 : (step K (c :: r)).1 ≠ 6) : Lone K (step K (c :: r)).1 ((c :: r).take (step K (c :: r)).2) := by
  obtain ⟨⟨_, _, h3⟩, h4⟩ := step_tok h0 h6
  obtain ⟨s1, s2⟩ := step_len K c r
  obtain ⟨n, hn⟩ : ∃ n, (step K (c :: r)).2 = n + 1 := ⟨(step K (c :: r)).2 - 1, by omega⟩
  refine ⟨c, r.take n, by rw [hn, List.take_succ_cons], ?_, ⟨h0, h6⟩, h3⟩
  rw [h4, List.length_take, Nat.min_eq_left s2]
theorem all_lone {K : List UInt8 → Nat} : ∀ (n p : Nat) (l : List UInt8), l.length ≤ n → ∀ x ∈ (all K p l).2, Lone K x.kind x.text
  | _, _, [], _, x, hx => by simp [all_nil] at hx
  | 0, _, _ :: _, h, _, _ => by simp at h
  | n + 1, p, c :: r, h, x, hx => by
    have hs := step_len K c r
    simp only [List.length_cons] at h hs
    have hl : ((c :: r).drop (step K (c :: r)).2).length ≤ n := by rw [List.length_drop, List.length_cons]; omega
    have ih := all_lone (K := K) n (p + (step K (c :: r)).2) _ hl x
    rw [all_cons] at hx
    by_cases h0 : (step K (c :: r)).1 = 0
    · rw [if_pos h0] at hx; cases hx
    · rw [if_neg h0] at hx
      by_cases h6 : (step K (c :: r)).1 = 6
      · rw [if_pos h6] at hx; exact ih hx
      · rw [if_neg h6] at hx
        rcases List.mem_cons.1 hx with rfl | hx
        · exact lone_of h0 h6
        · exact ih hx
theorem all_word {K : List UInt8 → Nat} {k : Nat} {u : List UInt8} (h : Lone K k u) {b : UInt8} (hb : Sep b) (p : Nat) (t : List UInt8) : all K p (u ++ b :: t) = ((all K (p + u.length) (b :: t)).1, ⟨k, u, p⟩ :: (all K (p + u.length) (b :: t)).2) := by
  obtain ⟨c, r, rfl, hs, ⟨h0, h6⟩, hc⟩ := h
  have e := step_sep K (c := c) hb (.inl hc) r t
  rw [hs] at e
  rw [List.cons_append, all_cons, e]
  simp only [if_neg h0, if_neg h6]
  rw [← List.cons_append, List.drop_left, List.take_left]
theorem all_blank (K : List UInt8 → Nat) (p : Nat) (t : List UInt8) : all K p (32 :: t) = all K (p + 1) t := by
  rw [all_cons, show step K (32 :: t) = (6, 1) from rfl]; rfl
theorem all_line (K : List UInt8 → Nat) (p : Nat) (t : List UInt8) : all K p (10 :: t) = all K (p + 1) t := by
  rw [all_cons, show step K (10 :: t) = (6, 1) from rfl]; rfl
def Same (a b : List Tok) : Prop := a.map (fun x => (x.kind, x.text)) = b.map (fun x => (x.kind, x.text))
def Placed (l : List UInt8) : Nat → Nat → List Tok → Prop
  | _, _, [] => True
  | p, e, x :: xs => e ≤ x.at_ ∧ x.text ≠ [] ∧ x.at_ + x.text.length ≤ p + l.length ∧ (l.drop (x.at_ - p)).take x.text.length = x.text ∧ p ≤ x.at_ ∧ Placed l p (x.at_ + x.text.length) xs
theorem Placed.less {l : List UInt8} {p e e' : Nat} {xs : List Tok} (h : Placed l p e xs) (he : e' ≤ e) : Placed l p e' xs := by
  cases xs with
  | nil => trivial
  | cons x xs => obtain ⟨h1, h2, h3, h4, h5, h6⟩ := h; exact ⟨by omega, h2, h3, h4, h5, h6⟩
theorem Placed.drop {l : List UInt8} {p n : Nat} (hn : n ≤ l.length) : ∀ {xs : List Tok} {e : Nat}, Placed (l.drop n) (p + n) e xs → Placed l p e xs
  | [], _, _ => trivial
  | x :: xs, e, ⟨h1, h2, h3, h4, h5, h6⟩ => by
    rw [List.length_drop] at h3
    rw [List.drop_drop] at h4
    exact ⟨h1, h2, by omega, by rw [← h4]; congr 2; congr 1; omega, by omega, Placed.drop hn h6⟩
end PLex

namespace PMoney
open Go

def MM : Nat := 9223372036854775807

def two (i : Nat) : List UInt8 := [UInt8.ofNat (48 + i / 10), UInt8.ofNat (48 + i % 10)]
theorem two_len (i : Nat) : (two i).length ≤ 2 := Nat.le_refl _
def textNat (u : Nat) : List UInt8 := Lib.decDigits (u / 100) ++ [46, UInt8.ofNat (48 + u % 100 / 10), UInt8.ofNat (48 + u % 10)]
def text (n : Int) : List UInt8 := if n < 0 then 45 :: textNat n.natAbs else textNat n.natAbs

def stepN (n : Nat) (c : UInt8) : Option Nat := if 48 ≤ c.toNat ∧ c.toNat ≤ 57 ∧ 10 * n + (c.toNat - 48) ≤ MM then some (10 * n + (c.toNat - 48)) else none
def appN : Nat → List UInt8 → Option Nat
  | n, [] => some n
  | n, c :: r => (stepN n c).bind fun k => appN k r

theorem appN_append (n : Nat) (a b : List UInt8) : appN n (a ++ b) = (appN n a).bind fun k => appN k b := by
  induction a generalizing n with
  | nil => rfl
  | cons c r ih =>
    simp only [List.cons_append, appN]
    cases stepN n c with
    | none => rfl
    | some k => simpa using ih k

theorem appN_snoc (n : Nat) (a : List UInt8) (c : UInt8) : appN n (a ++ [c]) = (appN n a).bind fun k => stepN k c := by
  rw [appN_append]
  cases appN n a with
  | none => rfl
  | some k => simp [appN]

theorem stepN_some {n k : Nat} {c : UInt8} (h : stepN n c = some k) : 48 ≤ c.toNat ∧ c.toNat ≤ 57 ∧ k = 10 * n + (c.toNat - 48) ∧ k ≤ MM := by
  unfold stepN at h
  split at h
  · rename_i hc; cases h; exact ⟨hc.1, hc.2.1, rfl, hc.2.2⟩
  · cases h

theorem ofNat_toNat (c : UInt8) (h : 48 ≤ c.toNat) : UInt8.ofNat (48 + (c.toNat - 48)) = c := by
  rw [show 48 + (c.toNat - 48) = c.toNat by omega]; simp

theorem digit_toNat (d : Nat) (h : d < 10) : (UInt8.ofNat (48 + d)).toNat = 48 + d := by
  rw [UInt8.toNat_ofNat']; omega

theorem stepN_digit (n d : Nat) (hd : d < 10) (h : 10 * n + d ≤ MM) : stepN n (UInt8.ofNat (48 + d)) = some (10 * n + d) := by
  unfold stepN
  rw [digit_toNat d hd, if_pos (by omega)]
  congr 1; omega

theorem dec_big (v d : Nat) (hv : 0 < v) (hd : d < 10) : Lib.decDigits (10 * v + d) = Lib.decDigits v ++ [UInt8.ofNat (48 + d)] := by
  rw [Lib.decDigits, dif_neg (by omega), show (10 * v + d) / 10 = v by omega, show (10 * v + d) % 10 = d by omega]
theorem dec_small (d : Nat) (hd : d < 10) : Lib.decDigits d = [UInt8.ofNat (48 + d)] := by
  rw [Lib.decDigits, dif_pos hd]

theorem dec_ne_nil (v : Nat) : Lib.decDigits v ≠ [] := by
  rw [Lib.decDigits]; split <;> simp

theorem dec_app : ∀ (r : List UInt8) (ds : List UInt8), r.reverse = ds → ds ≠ [] → ∀ v, appN 0 ds = some v → (ds.length = 1 ∨ ds.head? ≠ some 48) → Lib.decDigits v = ds
  | [], ds, hr, hne, _, _, _ => by simp at hr; exact absurd hr hne
  | c :: r, ds, hr, hne, v, hv, hz => by
    obtain rfl : ds = r.reverse ++ [c] := by simpa using hr.symm
    rw [appN_snoc] at hv
    obtain ⟨k, hk, hs⟩ := Option.bind_eq_some_iff.1 hv
    obtain ⟨h1, h2, rfl, _⟩ := stepN_some hs
    by_cases hnil : r.reverse = []
    · rw [hnil] at hk ⊢
      cases hk
      rw [show 10 * 0 + (c.toNat - 48) = c.toNat - 48 by omega, dec_small _ (by omega), ofNat_toNat c h1]; rfl
    · have hz' : r.reverse.head? ≠ some 48 := by
        rcases hz with hz | hz
        · exfalso; apply hnil
          rw [List.length_append] at hz
          exact List.eq_nil_of_length_eq_zero (by simpa using hz)
        · rw [List.head?_append] at hz
          intro e; apply hz; rw [e]; rfl
      have ih := dec_app r r.reverse rfl hnil k hk (Or.inr hz')
      have hk0 : 0 < k := by
        rcases Nat.eq_zero_or_pos k with h0 | h0
        · exfalso; apply hz'; rw [← ih, h0, dec_small 0 (by decide)]; rfl
        · exact h0
      rw [dec_big k _ hk0 (by omega), ih, ofNat_toNat c h1]

theorem dec_head (v : Nat) : (Lib.decDigits v).length = 1 ∨ (Lib.decDigits v).head? ≠ some 48 := by
  induction v using Nat.strongRecOn with
  | _ v ih =>
    by_cases h : v < 10
    · left; rw [dec_small v h]; rfl
    · right
      rw [Lib.decDigits, dif_neg h, List.head?_append]
      by_cases h2 : v / 10 < 10
      · rw [dec_small _ h2]
        intro e
        simp only [List.head?_cons, Option.some_or, Option.some.injEq] at e
        have := congrArg UInt8.toNat e
        rw [digit_toNat _ h2] at this
        have h3 : (48 : UInt8).toNat = 48 := rfl
        omega
      · have h4 := ih (v / 10) (by omega)
        rcases h4 with h4 | h4
        · exfalso
          rw [Lib.decDigits, dif_neg h2, List.length_append] at h4
          have := dec_ne_nil (v / 10 / 10)
          have h5 : (Lib.decDigits (v / 10 / 10)).length ≠ 0 := fun e => this (List.eq_nil_of_length_eq_zero e)
          simp at h4; exact this h4
        · intro e; apply h4
          rcases hx : (Lib.decDigits (v / 10)).head? with _ | x
          · exfalso; exact dec_ne_nil _ (List.head?_eq_none_iff.1 hx)
          · rw [hx] at e; simpa using e

theorem app_dec (v : Nat) (h : v ≤ MM) : appN 0 (Lib.decDigits v) = some v := by
  induction v using Nat.strongRecOn with
  | _ v ih =>
    by_cases hs : v < 10
    · rw [dec_small v hs]
      simp only [appN]
      rw [stepN_digit 0 v hs (by omega)]; simp
    · rw [Lib.decDigits, dif_neg hs, appN_snoc, ih (v / 10) (by omega) (by omega), Option.bind_some, stepN_digit _ _ (by omega) (by omega)]
      congr 1; omega

def sizeOf (l : List UInt8) : Option Nat :=
  if 4 ≤ l.length ∧ l[l.length - 3]? = some 46 ∧ ¬ (4 < l.length ∧ l.head? = some 48)
  then (appN 0 (l.take (l.length - 3))).bind fun k => appN k (l.drop (l.length - 2)) else none

def wideOf (l : List UInt8) : Option Nat :=
  if 4 ≤ l.length ∧ l[l.length - 3]? = some 46
  then (appN 0 (l.take (l.length - 3))).bind fun k => appN k (l.drop (l.length - 2)) else none

theorem parts {l : List UInt8} (h : 4 ≤ l.length) (hd : l[l.length - 3]? = some 46) : ∃ ds a b, ds ≠ [] ∧ l = ds ++ [46, a, b] ∧ l.take (l.length - 3) = ds ∧ l.drop (l.length - 2) = [a, b] ∧ ds.length = l.length - 3 := by
  refine ⟨l.take (l.length - 3), l[l.length - 2]'(by omega), l[l.length - 1]'(by omega), ?_, ?_, rfl, ?_, by simp⟩
  · intro e; have := congrArg List.length e; simp at this; omega
  · apply List.ext_getElem?
    intro i
    by_cases h1 : i < l.length - 3
    · rw [List.getElem?_append_left (by simp; omega), List.getElem?_take, if_pos h1]
    · rw [List.getElem?_append_right (by simp; omega)]
      rw [show (l.take (l.length - 3)).length = l.length - 3 by simp]
      obtain ⟨j, rfl⟩ : ∃ j, i = l.length - 3 + j := ⟨i - (l.length - 3), by omega⟩
      rw [show l.length - 3 + j - (l.length - 3) = j by omega]
      match j with
      | 0 => simpa using hd
      | 1 => rw [show l.length - 3 + 1 = l.length - 2 by omega]; simp
      | 2 => rw [show l.length - 3 + 2 = l.length - 1 by omega]; simp
      | j + 3 => rw [List.getElem?_eq_none (by omega)]; simp
  · apply List.ext_getElem?
    intro i
    rw [List.getElem?_drop]
    match i with
    | 0 => simp
    | 1 => rw [show l.length - 2 + 1 = l.length - 1 by omega]; simp
    | i + 2 => rw [List.getElem?_eq_none (by omega)]; simp

theorem textNat_of {ds : List UInt8} {a b : UInt8} {v u : Nat} (hu : appN v [a, b] = some u) (hd : Lib.decDigits v = ds) : textNat u = ds ++ [46, a, b] := by
  simp only [appN] at hu
  obtain ⟨k, hk, hu⟩ := Option.bind_eq_some_iff.1 hu
  obtain ⟨m, hm, hu⟩ := Option.bind_eq_some_iff.1 hu
  cases hu
  obtain ⟨a1, a2, rfl, _⟩ := stepN_some hk
  obtain ⟨b1, b2, rfl, _⟩ := stepN_some hm
  unfold textNat
  rw [show (10 * (10 * v + (a.toNat - 48)) + (b.toNat - 48)) / 100 = v by omega, show (10 * (10 * v + (a.toNat - 48)) + (b.toNat - 48)) % 100 / 10 = a.toNat - 48 by omega, show (10 * (10 * v + (a.toNat - 48)) + (b.toNat - 48)) % 10 = b.toNat - 48 by omega, hd, ofNat_toNat a a1, ofNat_toNat b b1]

theorem textNat_val {ds : List UInt8} {a b : UInt8} {v u : Nat} (hu : appN v [a, b] = some u) (ht : textNat u = ds ++ [46, a, b]) : Lib.decDigits v = ds := by
  simp only [appN] at hu
  obtain ⟨k, hk, hu⟩ := Option.bind_eq_some_iff.1 hu
  obtain ⟨m, hm, hu⟩ := Option.bind_eq_some_iff.1 hu
  cases hu
  obtain ⟨a1, a2, rfl, _⟩ := stepN_some hk
  obtain ⟨b1, b2, rfl, _⟩ := stepN_some hm
  unfold textNat at ht
  rw [show (10 * (10 * v + (a.toNat - 48)) + (b.toNat - 48)) / 100 = v by omega] at ht
  exact (List.append_inj' ht (by simp)).1

theorem sizeOf_iff (l : List UInt8) (u : Nat) : sizeOf l = some u ↔ wideOf l = some u ∧ textNat u = l := by
  unfold sizeOf wideOf
  by_cases h : 4 ≤ l.length ∧ l[l.length - 3]? = some 46
  · obtain ⟨ds, a, b, hne, hl, ht, hdr, hlen⟩ := parts h.1 h.2
    rw [if_pos h, ht, hdr]
    constructor
    · intro e
      split at e
      · rename_i hc
        refine ⟨e, ?_⟩
        obtain ⟨v, hv, hu⟩ := Option.bind_eq_some_iff.1 e
        rw [hl]
        refine textNat_of hu (dec_app _ _ (List.reverse_reverse ds) hne v hv ?_)
        by_cases h1 : ds.length = 1
        · exact Or.inl h1
        · refine Or.inr fun e => hc.2.2 ⟨?_, ?_⟩
          · have : ds.length ≠ 0 := fun e => hne (List.eq_nil_of_length_eq_zero e)
            omega
          · rw [hl, List.head?_append, e]; rfl
      · cases e
    · rintro ⟨e, htx⟩
      obtain ⟨v, hv, hu⟩ := Option.bind_eq_some_iff.1 e
      have hd := textNat_val hu (htx.trans hl)
      refine (if_pos ⟨h.1, h.2, ?_⟩).trans e
      · rintro ⟨h4, h5⟩
        have := dec_head v
        rw [hd] at this
        rcases this with h6 | h6
        · omega
        · apply h6
          rw [hl, List.head?_append] at h5
          rcases hx : ds.head? with _ | x
          · exact absurd (List.head?_eq_none_iff.1 hx) hne
          · rw [hx] at h5; simpa using h5
  · rw [if_neg h, if_neg (fun hc => h ⟨hc.1, hc.2.1⟩)]
    simp

theorem textNat_length (u : Nat) : (textNat u).length = (Lib.decDigits (u / 100)).length + 3 := by unfold textNat; simp

theorem wideOf_text (u : Nat) (h : u ≤ MM) : wideOf (textNat u) = some u := by
  have hne : (Lib.decDigits (u / 100)).length ≠ 0 := fun e => dec_ne_nil _ (List.eq_nil_of_length_eq_zero e)
  unfold wideOf
  rw [textNat_length, show (Lib.decDigits (u / 100)).length + 3 - 3 = (Lib.decDigits (u / 100)).length by omega, show (Lib.decDigits (u / 100)).length + 3 - 2 = (Lib.decDigits (u / 100)).length + 1 by omega]
  unfold textNat
  rw [if_pos ⟨by omega, by simp⟩]
  rw [List.take_left' rfl, app_dec _ (by omega), Option.bind_some, ← List.drop_drop, List.drop_left' rfl]
  simp only [List.drop_succ_cons, List.drop_zero, appN]
  rw [stepN_digit (u / 100) (u % 100 / 10) (by omega) (by omega), Option.bind_some, stepN_digit _ _ (by omega) (by omega), Option.bind_some]
  congr 1; omega

theorem sizeOf_text (u : Nat) (h : u ≤ MM) : sizeOf (textNat u) = some u := (sizeOf_iff _ _).2 ⟨wideOf_text u h, rfl⟩

theorem textNat_head (u : Nat) : (textNat u).head? ≠ some 45 := by
  unfold textNat
  rw [List.head?_append]
  have hd : ∀ v, (Lib.decDigits v).head? ≠ some 45 ∧ (Lib.decDigits v).head? ≠ none := by
    intro v
    refine ⟨?_, fun e => dec_ne_nil _ (List.head?_eq_none_iff.1 e)⟩
    induction v using Nat.strongRecOn with
    | _ v ih =>
      by_cases h : v < 10
      · rw [dec_small v h]
        intro e
        simp only [List.head?_cons, Option.some.injEq] at e
        have := congrArg UInt8.toNat e
        rw [digit_toNat _ h] at this
        have h3 : (45 : UInt8).toNat = 45 := rfl
        omega
      · rw [Lib.decDigits, dif_neg h, List.head?_append]
        rcases hx : (Lib.decDigits (v / 10)).head? with _ | x
        · exact absurd (List.head?_eq_none_iff.1 hx) (dec_ne_nil _)
        · have := ih (v / 10) (by omega); rw [hx] at this; simpa using this
  rcases hx : (Lib.decDigits (u / 100)).head? with _ | x
  · exact absurd hx (hd _).2
  · have := (hd (u / 100)).1; rw [hx] at this; simpa using this

def bare (l : List UInt8) : List UInt8 := if l.head? = some 45 then l.tail else l
def parse (l : List UInt8) : Option Int :=
  (sizeOf (bare l)).bind fun u => if l.head? = some 45 then (if u = 0 then none else some (-(u : Int))) else some (u : Int)

theorem parse_some {l : List UInt8} {n : Int} (h : parse l = some n) : text n = l ∧ n.natAbs ≤ MM ∧ wideOf (bare l) = some n.natAbs := by
  unfold parse at h
  obtain ⟨u, hu, h⟩ := Option.bind_eq_some_iff.1 h
  obtain ⟨hw, ht⟩ := (sizeOf_iff _ _).1 hu
  have hb : u ≤ MM := by
    unfold wideOf at hw
    split at hw
    · rename_i hc
      obtain ⟨ds, a, b, hne, hl, h1, hdr, hlen⟩ := parts hc.1 hc.2
      obtain ⟨v, hv, hw⟩ := Option.bind_eq_some_iff.1 hw
      rw [hdr] at hw
      simp only [appN] at hw
      obtain ⟨k, hk, hw⟩ := Option.bind_eq_some_iff.1 hw
      obtain ⟨m, hm, hw⟩ := Option.bind_eq_some_iff.1 hw
      cases hw
      exact (stepN_some hm).2.2.2
    · cases hw
  unfold bare at ht hw ⊢
  split at h
  · rename_i hm
    rw [if_pos hm] at ht hw ⊢
    split at h
    · cases h
    · cases h
      have e : (-(u : Int)).natAbs = u := by omega
      rw [e]
      refine ⟨?_, hb, hw⟩
      unfold text
      rw [if_pos (by omega), e, ht]
      cases l with
      | nil => cases hm
      | cons c r => simp at hm; subst hm; rfl
  · rename_i hm
    rw [if_neg hm] at ht hw ⊢
    cases h
    have e : (u : Int).natAbs = u := by omega
    rw [e]
    refine ⟨?_, hb, hw⟩
    unfold text
    rw [if_neg (by omega), e, ht]

theorem bare_text (n : Int) : bare (text n) = textNat n.natAbs := by
  unfold text bare
  split
  · simp
  · rw [if_neg (textNat_head _)]

theorem text_minus (n : Int) : (text n).head? = some 45 ↔ n < 0 := by
  unfold text
  split
  · simp [*]
  · simp [*, textNat_head]

theorem parse_text (n : Int) (h : n.natAbs ≤ MM) : parse (text n) = some n := by
  unfold parse
  rw [bare_text, sizeOf_text _ h, Option.bind_some]
  by_cases hn : n < 0
  · rw [if_pos ((text_minus n).2 hn), if_neg (by omega)]; congr 1; omega
  · rw [if_neg (fun e => hn ((text_minus n).1 e))]; congr 1; omega

theorem parse_iff (l : List UInt8) (n : Int) : parse l = some n ↔ (wideOf (bare l) = some n.natAbs ∧ text n = l ∧ n.natAbs ≤ MM) := by
  constructor
  · intro h; obtain ⟨a, b, c⟩ := parse_some h; exact ⟨c, a, b⟩
  · rintro ⟨_, h, hb⟩; rw [← h]; exact parse_text n hb
end PMoney

namespace PRate
open Go

def text (n : Int) : List UInt8 := PMoney.text n ++ [37]
def parse (l : List UInt8) : Option Int := if Lib.hasSuffix l [37] = true then (PMoney.parse (Lib.trimSuffix l [37])).filter (fun n => decide (0 ≤ n ∧ n ≤ 10000)) else none

theorem suffix_iff (l : List UInt8) : Lib.hasSuffix l [37] = true ↔ ∃ k, l = k ++ [37] := by
  unfold Lib.hasSuffix
  rw [List.isSuffixOf_iff_suffix]
  exact ⟨fun ⟨k, h⟩ => ⟨k, h.symm⟩, fun ⟨k, h⟩ => ⟨k, h.symm⟩⟩
theorem trim_snoc (k : List UInt8) : Lib.trimSuffix (k ++ [37]) [37] = k := by
  unfold Lib.trimSuffix
  rw [if_pos ((suffix_iff _).2 ⟨k, rfl⟩)]; simp
theorem parse_iff (l : List UInt8) (n : Int) : parse l = some n ↔ (0 ≤ n ∧ n ≤ 10000 ∧ text n = l) := by
  unfold parse text
  by_cases h : Lib.hasSuffix l [37] = true
  · obtain ⟨k, rfl⟩ := (suffix_iff l).1 h
    rw [if_pos h, trim_snoc, Option.filter_eq_some_iff, decide_eq_true_iff]
    constructor
    · rintro ⟨h1, h2, h3⟩
      exact ⟨h2, h3, by rw [(PMoney.parse_some h1).1]⟩
    · rintro ⟨h1, h2, h3⟩
      refine ⟨?_, h1, h2⟩
      rw [← List.append_cancel_right h3]
      exact PMoney.parse_text n (by unfold PMoney.MM; omega)
  · rw [if_neg h]
    constructor
    · intro k; cases k
    · rintro ⟨_, _, h3⟩
      exact absurd ((suffix_iff l).2 ⟨_, h3.symm⟩) h
theorem parse_text (n : Int) (h0 : 0 ≤ n) (h1 : n ≤ 10000) : parse (text n) = some n := (parse_iff _ _).2 ⟨h0, h1, rfl⟩
end PRate

namespace PLex
def whole (l : List UInt8) : Bool := l.all isDig && (0 < l.length && l.length < 10 && (l.length == 1 || l.head? != some 48))
end PLex
namespace PLex
def kindOf (l : List UInt8) : Nat := if (PMoney.parse l).isSome = true then 3 else if (PRate.parse l).isSome = true then 4 else if whole l = true then 2 else 0
end PLex
namespace Go.Proofs.YtdkcdgjpcojdfaaGreatDoor
open Go.RowKit

def noneTo (c : UInt8) (s : ByteArray) (j : Nat) : Prop := ∀ i (h : i < s.size), i < j → s[i] ≠ c
def inB (c : UInt8) (l : List UInt8) : Bool := l.contains c
theorem contains_no {c : UInt8} {s : ByteArray} (h : noneTo c s s.size) : inB c s.data.toList = false := by
  unfold inB
  rw [Bool.eq_false_iff]
  intro k
  rw [List.contains_iff_mem] at k
  obtain ⟨i, hi, e⟩ := List.getElem_of_mem k
  have hi' : i < s.size := by simpa using hi
  exact h i hi' hi' (by rw [← e]; simp; rfl)
theorem contains_yes {c : UInt8} {s : ByteArray} {j : Nat} (h : j < s.size) (e : s[j] = c) : inB c s.data.toList = true := by
  unfold inB
  rw [List.contains_iff_mem, ← e]
  exact List.mem_of_getElem (i := j) (h := by simpa using h) (by simp; rfl)

theorem drop_at {s : ByteArray} {j : Nat} (h : j < s.size) : s.data.toList.drop j = s[j] :: s.data.toList.drop (j + 1) := by
  rw [List.drop_eq_getElem_cons (by simpa using h)]
  simp; rfl
def endOf (l : List UInt8) (s : ByteArray) (j : Nat) : Nat := j + ((s.data.toList.drop j).takeWhile (fun c => inB c l)).length
theorem endOf_yes {l : List UInt8} {s : ByteArray} {j : Nat} (h : j < s.size) (hc : inB s[j] l = true) : endOf l s j = endOf l s (j + 1) := by
  unfold endOf
  rw [drop_at h, List.takeWhile_cons, if_pos hc, List.length_cons]; omega
theorem endOf_no {l : List UInt8} {s : ByteArray} {j : Nat} (h : j < s.size) (hc : inB s[j] l = false) : endOf l s j = j := by
  unfold endOf
  rw [drop_at h, List.takeWhile_cons, if_neg (by rw [hc]; exact Bool.false_ne_true)]; rfl
theorem endOf_last {l : List UInt8} {s : ByteArray} : endOf l s s.size = s.size := by
  unfold endOf
  rw [List.drop_of_length_le (by simp)]; rfl

def digL : ByteArray := { data := #[48, 49, 50, 51, 52, 53, 54, 55, 56, 57] }
theorem dig_in (c : UInt8) : inB c digL.data.toList = PLex.isDig c := by
  have h : ∀ n : Fin 256, inB (UInt8.ofNat n.val) digL.data.toList = PLex.isDig (UInt8.ofNat n.val) := by decide +kernel
  have := h ⟨c.toNat, c.toNat_lt⟩
  simpa using this
def digsTo (s : ByteArray) (j : Nat) : Prop := ∀ i (h : i < s.size), i < j → PLex.isDig s[i] = true
theorem all_digs {s : ByteArray} (h : digsTo s s.size) : s.data.toList.all PLex.isDig = true := by
  rw [List.all_eq_true]
  intro x hx
  obtain ⟨i, hi, e⟩ := List.getElem_of_mem hx
  have hi' : i < s.size := by simpa using hi
  have := h i hi' hi'
  rw [← e, Array.getElem_toList]; exact this
theorem not_digs {s : ByteArray} {j : Nat} (h : j < s.size) (e : PLex.isDig s[j] = false) : s.data.toList.all PLex.isDig = false := by
  rw [Bool.eq_false_iff]
  intro k
  rw [List.all_eq_true] at k
  have := k s[j] (List.mem_of_getElem (i := j) (h := by simpa using h) (by simp; rfl))
  rw [e] at this; cases this

end Go.Proofs.YtdkcdgjpcojdfaaGreatDoor

namespace PTree
open PLex (Tok)

inductive Tr where
  | whole (n : Nat) | amount (n : Int) | rate (n : Int) | name (s : List UInt8)
  | neg (a : Tr) | bin (op : List UInt8) (a b : Tr) | cond (a b c : Tr)
deriving DecidableEq
structure Ex where
  op : List UInt8
  name : List UInt8
  value : Int
  a : Nat
  b : Nat
  c : Nat
deriving DecidableEq
def Tr.size : Tr → Nat
  | .whole _ => 1 | .amount _ => 1 | .rate _ => 1 | .name _ => 1
  | .neg a => a.size + 1 | .bin _ a b => a.size + b.size + 1 | .cond a b c => a.size + b.size + c.size + 1
def Tr.flat : Tr → Nat → List Ex
  | .whole n, _ => [⟨[119, 104, 111, 108, 101], [], n, 0, 0, 0⟩]
  | .amount n, _ => [⟨[97, 109, 111, 117, 110, 116], [], n, 0, 0, 0⟩]
  | .rate n, _ => [⟨[114, 97, 116, 101], [], n, 0, 0, 0⟩]
  | .name s, _ => [⟨[110, 97, 109, 101], s, 0, 0, 0, 0⟩]
  | .neg a, o => a.flat o ++ [⟨[110, 101, 103], [], 0, o + a.size - 1, 0, 0⟩]
  | .bin op a b, o => a.flat o ++ b.flat (o + a.size) ++ [⟨op, [], 0, o + a.size - 1, o + a.size + b.size - 1, 0⟩]
  | .cond a b c, o => a.flat o ++ b.flat (o + a.size) ++ c.flat (o + a.size + b.size) ++ [⟨[105, 102], [], 0, o + a.size - 1, o + a.size + b.size - 1, o + a.size + b.size + c.size - 1⟩]
theorem Tr.size_pos (t : Tr) : 1 ≤ t.size := by cases t <;> simp [Tr.size]
theorem Tr.flat_len (t : Tr) : ∀ o, (t.flat o).length = t.size := by
  induction t with
  | whole n => intro o; rfl
  | amount n => intro o; rfl
  | rate n => intro o; rfl
  | name s => intro o; rfl
  | neg a ih => intro o; simp [Tr.flat, Tr.size, ih]
  | bin op a b iha ihb => intro o; simp [Tr.flat, Tr.size, iha, ihb]; omega
  | cond a b c iha ihb ihc => intro o; simp [Tr.flat, Tr.size, iha, ihb, ihc]; omega

inductive R (α : Type) where
  | bad (e p : Nat)
  | ok (ts : List Tok) (a : α)
deriving DecidableEq
def R.next {α β : Type} : Option (R α) → (List Tok → α → Option (R β)) → Option (R β)
  | none, _ => none
  | some (.bad e p), _ => some (.bad e p)
  | some (.ok ts a), k => k ts a
def textOf : List Tok → List UInt8
  | [] => []
  | t :: _ => if t.kind = 1 ∨ t.kind = 5 then t.text else []
def placeOf (en : Nat) : List Tok → Nat
  | [] => en
  | t :: _ => t.at_
def must (en : Nat) (s : List UInt8) (ts : List Tok) : Option (R Unit) := if textOf ts = s then some (.ok ts.tail ()) else some (.bad 2 (placeOf en ts))
def level : Nat → List (List UInt8)
  | 0 => [[60], [60, 61], [61], [60, 62], [62], [62, 61]]
  | 1 => [[43], [45]]
  | _ => [[42]]
def kinds : List (List UInt8) := [[101, 97, 114, 110], [112, 114, 101, 116, 97, 120], [112, 111, 115, 116], [108, 101, 116]]
def takenL : List (List UInt8) := [[101, 97, 114, 110], [112, 114, 101, 116, 97, 120], [112, 111, 115, 116], [108, 101, 116], [105, 102], [116, 104, 101, 110], [101, 108, 115, 101], [109, 105, 110], [109, 97, 120]]
def numOf (l : List UInt8) : Nat := l.foldl (fun n c => 10 * n + (c.toNat - 48)) 0
def leaf (t : Tok) : Option Tr :=
  if t.kind = 1 then (if t.text ∈ takenL then none else some (.name t.text))
  else if t.kind = 2 then some (.whole (numOf t.text))
  else if t.kind = 3 then some (.amount ((PMoney.parse t.text).getD 0))
  else if t.kind = 4 then some (.rate ((PRate.parse t.text).getD 0))
  else none
inductive Md where
  | whole | chain (n : Nat) | more (n : Nat) (t : Tr) | factor
def body (en : Nat) (X : Md → Nat → List Tok → Option (R Tr)) : Md → Nat → List Tok → Option (R Tr)
  | .whole, d, ts =>
    if 20 < d then some (.bad 9 (placeOf en ts))
    else if textOf ts = [105, 102] then
      R.next (X .whole (d + 1) ts.tail) fun t1 a => R.next (must en [116, 104, 101, 110] t1) fun t2 _ =>
      R.next (X .whole (d + 1) t2) fun t3 b => R.next (must en [101, 108, 115, 101] t3) fun t4 _ =>
      R.next (X .whole (d + 1) t4) fun t5 c => some (.ok t5 (.cond a b c))
    else X (.chain 0) d ts
  | .chain n, d, ts =>
    if 3 ≤ n then X .factor d ts
    else R.next (X (.chain (n + 1)) d ts) fun t1 a => X (.more n a) d t1
  | .more n a, d, ts =>
    if textOf ts ∈ level n then
      R.next (X (.chain (n + 1)) d ts.tail) fun t1 b => if n = 0 then some (.ok t1 (.bin (textOf ts) a b)) else X (.more n (.bin (textOf ts) a b)) d t1
    else some (.ok ts a)
  | .factor, d, ts =>
    if 20 < d then some (.bad 9 (placeOf en ts))
    else if textOf ts = [45] then R.next (X .factor (d + 1) ts.tail) fun t1 a => some (.ok t1 (.neg a))
    else if textOf ts = [40] then R.next (X .whole (d + 1) ts.tail) fun t1 a => R.next (must en [41] t1) fun t2 _ => some (.ok t2 a)
    else if textOf ts = [109, 105, 110] ∨ textOf ts = [109, 97, 120] then
      R.next (must en [40] ts.tail) fun t1 _ => R.next (X .whole (d + 1) t1) fun t2 a => R.next (must en [44] t2) fun t3 _ =>
      R.next (X .whole (d + 1) t3) fun t4 b => R.next (must en [41] t4) fun t5 _ => some (.ok t5 (.bin (textOf ts) a b))
    else match ts with
      | [] => some (.bad 2 en)
      | t :: r => match leaf t with
        | none => some (.bad 2 t.at_)
        | some x => some (.ok r x)
def run (en : Nat) : Nat → Md → Nat → List Tok → Option (R Tr)
  | 0 => fun _ _ _ => none
  | f + 1 => body en (run en f)

def Les (X Y : Md → Nat → List Tok → Option (R Tr)) : Prop := ∀ m d ts r, X m d ts = some r → Y m d ts = some r
theorem next_les {α β : Type} {x y : Option (R α)} {k l : List Tok → α → Option (R β)} {r : R β} (h : ∀ r, x = some r → y = some r) (hk : ∀ ts a r, k ts a = some r → l ts a = some r) (e : R.next x k = some r) : R.next y l = some r := by
  cases x with
  | none => cases e
  | some x =>
    rw [h x rfl]
    cases x with
    | bad e' p => exact e
    | ok ts a => exact hk ts a r e
theorem body_les {en : Nat} {X Y : Md → Nat → List Tok → Option (R Tr)} (h : Les X Y) : Les (body en X) (body en Y) := by
  intro m d ts r e
  cases m with
  | whole =>
    simp only [body] at e ⊢
    by_cases h1 : 20 < d
    · rw [if_pos h1] at e ⊢; exact e
    rw [if_neg h1] at e ⊢
    by_cases h2 : textOf ts = [105, 102]
    · rw [if_pos h2] at e ⊢
      exact next_les (h _ _ _) (fun _ _ _ => next_les (fun _ e => e) (fun _ _ _ => next_les (h _ _ _) (fun _ _ _ => next_les (fun _ e => e) (fun _ _ _ => next_les (h _ _ _) (fun _ _ _ e => e))))) e
    · rw [if_neg h2] at e ⊢; exact h _ _ _ _ e
  | chain n =>
    simp only [body] at e ⊢
    by_cases h1 : 3 ≤ n
    · rw [if_pos h1] at e ⊢; exact h _ _ _ _ e
    · rw [if_neg h1] at e ⊢
      exact next_les (h _ _ _) (fun _ _ _ => h _ _ _ _) e
  | more n a =>
    simp only [body] at e ⊢
    by_cases h1 : textOf ts ∈ level n
    · rw [if_pos h1] at e ⊢
      refine next_les (h _ _ _) (fun _ _ _ e => ?_) e
      by_cases h2 : n = 0
      · rw [if_pos h2] at e ⊢; exact e
      · rw [if_neg h2] at e ⊢; exact h _ _ _ _ e
    · rw [if_neg h1] at e ⊢; exact e
  | factor =>
    simp only [body] at e ⊢
    by_cases h1 : 20 < d
    · rw [if_pos h1] at e ⊢; exact e
    rw [if_neg h1] at e ⊢
    by_cases h2 : textOf ts = [45]
    · rw [if_pos h2] at e ⊢
      exact next_les (h _ _ _) (fun _ _ _ e => e) e
    rw [if_neg h2] at e ⊢
    by_cases h3 : textOf ts = [40]
    · rw [if_pos h3] at e ⊢
      exact next_les (h _ _ _) (fun _ _ _ e => e) e
    rw [if_neg h3] at e ⊢
    by_cases h4 : textOf ts = [109, 105, 110] ∨ textOf ts = [109, 97, 120]
    · rw [if_pos h4] at e ⊢
      exact next_les (fun _ e => e) (fun _ _ _ => next_les (h _ _ _) (fun _ _ _ => next_les (fun _ e => e) (fun _ _ _ => next_les (h _ _ _) (fun _ _ _ e => e)))) e
    rw [if_neg h4] at e ⊢; exact e
theorem run_next (en : Nat) : ∀ f, Les (run en f) (run en (f + 1))
  | 0 => fun _ _ _ _ e => by cases e
  | f + 1 => body_les (run_next en f)
theorem run_more {en f g : Nat} (h : f ≤ g) : Les (run en f) (run en g) := by
  induction g with
  | zero => obtain rfl : f = 0 := by omega
            exact fun _ _ _ _ e => e
  | succ g ih =>
    by_cases e : f = g + 1
    · subst e; exact fun _ _ _ _ e => e
    · exact fun m d ts r e => run_next en g _ _ _ _ (ih (by omega) m d ts r e)
theorem tail_len {ts : List Tok} (h : textOf ts ≠ []) : ts.tail.length + 1 = ts.length := by
  cases ts with
  | nil => exact absurd rfl h
  | cons t r => rfl
theorem level_ne {n : Nat} {s : List UInt8} (h : s ∈ level n) : s ≠ [] := by
  rintro rfl
  match n, h with
  | 0, h => simp [level] at h
  | 1, h => simp [level] at h
  | n + 2, h => simp [level] at h
def Md.c : Md → Nat
  | .whole => 9 | .chain n => if n = 0 then 8 else if n = 1 then 7 else if n = 2 then 6 else 5 | .factor => 4 | .more _ _ => 3
theorem chain_c (n : Nat) : (Md.chain n).c ≤ 8 := by
  simp only [Md.c]
  by_cases h0 : n = 0
  · rw [if_pos h0]; omega
  rw [if_neg h0]
  by_cases h1 : n = 1
  · rw [if_pos h1]; omega
  rw [if_neg h1]
  by_cases h2 : n = 2
  · rw [if_pos h2]; omega
  rw [if_neg h2]; omega
def Md.takes : Md → Nat
  | .more _ _ => 0 | _ => 1
def Good (k n : Nat) {α : Type} (x : Option (R α)) : Prop := ∃ r, x = some r ∧ ∀ ts a, r = .ok ts a → ts.length + k ≤ n
theorem Good.next {α β : Type} {x : Option (R α)} {k : List Tok → α → Option (R β)} {i n j m : Nat} (h : Good i n x) (hk : ∀ ts a, ts.length + i ≤ n → Good j m (k ts a)) : Good j m (R.next x k) := by
  obtain ⟨r, rfl, hr⟩ := h
  cases r with
  | bad e p => exact ⟨_, rfl, fun ts a e => by cases e⟩
  | ok ts a => exact hk ts a (hr ts a rfl)
theorem Good.bad {α : Type} {j m e p : Nat} : Good j m (some (R.bad (α := α) e p)) := ⟨_, rfl, fun ts a e => by cases e⟩
theorem Good.ok {α : Type} {j m : Nat} {ts : List Tok} {a : α} (h : ts.length + j ≤ m) : Good j m (some (R.ok ts a)) := ⟨_, rfl, fun ts' a' e => by cases e; exact h⟩
theorem Good.less {α : Type} {i n j m : Nat} {x : Option (R α)} (h : Good i n x) (hm : n + j ≤ m + i) : Good j m x := by
  obtain ⟨r, hx, hr⟩ := h
  exact ⟨r, hx, fun ts a e => by have := hr ts a e; omega⟩
theorem must_good {en : Nat} {s : List UInt8} (hs : s ≠ []) (ts : List Tok) : Good 1 ts.length (must en s ts) := by
  unfold must
  by_cases h : textOf ts = s
  · rw [if_pos h]; exact .ok (by have := tail_len (ts := ts) (by rw [h]; exact hs); omega)
  · rw [if_neg h]; exact .bad
theorem run_good (en : Nat) : ∀ (f : Nat) (m : Md) (d : Nat) (ts : List Tok), 10 * ts.length + m.c < f → Good m.takes ts.length (run en f m d ts) := by
  intro f
  induction f with
  | zero => intro m d ts h; omega
  | succ f ih =>
    intro m d ts hf
    have W : ∀ d ts, 10 * ts.length + 9 < f → Good 1 ts.length (run en f .whole d ts) := fun d ts h => ih .whole d ts h
    have F : ∀ d ts, 10 * ts.length + 4 < f → Good 1 ts.length (run en f .factor d ts) := fun d ts h => ih .factor d ts h
    have C : ∀ n d ts, 10 * ts.length + 8 < f → Good 1 ts.length (run en f (.chain n) d ts) := fun n d ts h => ih (.chain n) d ts (by have := chain_c n; omega)
    have M : ∀ n a d ts, 10 * ts.length + 3 < f → Good 0 ts.length (run en f (.more n a) d ts) := fun n a d ts h => ih (.more n a) d ts h
    show Good m.takes ts.length (body en (run en f) m d ts)
    cases m with
    | whole =>
      simp only [Md.c] at hf
      simp only [body]
      by_cases h1 : 20 < d
      · rw [if_pos h1]; exact .bad
      rw [if_neg h1]
      by_cases h2 : textOf ts = [105, 102]
      · rw [if_pos h2]
        have ht := tail_len (ts := ts) (by rw [h2]; exact List.cons_ne_nil _ _)
        refine (W _ _ (by omega)).next fun t1 a k1 => (must_good (List.cons_ne_nil _ _) t1).next fun t2 _ k2 => (W _ _ (by omega)).next fun t3 b k3 => (must_good (List.cons_ne_nil _ _) t3).next fun t4 _ k4 => (W _ _ (by omega)).next fun t5 c k5 => .ok ?_
        show t5.length + 1 ≤ _; omega
      · rw [if_neg h2]; exact ih (.chain 0) d ts (by have := chain_c 0; omega)
    | chain n =>
      simp only [body]
      by_cases h1 : 3 ≤ n
      · rw [if_pos h1]
        exact F d ts (by simp only [Md.c] at hf; rw [if_neg (by omega), if_neg (by omega), if_neg (by omega)] at hf; omega)
      · rw [if_neg h1]
        refine (ih (.chain (n + 1)) d ts ?_).next fun t1 a k1 => (M n a d t1 ?_).less ?_
        · simp only [Md.c] at hf ⊢
          have : n = 0 ∨ n = 1 ∨ n = 2 := by omega
          rcases this with rfl | rfl | rfl <;> simp at hf ⊢ <;> omega
        · have k2 : t1.length + 1 ≤ ts.length := k1
          omega
        · have k2 : t1.length + 1 ≤ ts.length := k1
          show t1.length + 1 ≤ ts.length + 0; omega
    | more n a =>
      simp only [Md.c] at hf
      simp only [body]
      by_cases h1 : textOf ts ∈ level n
      · rw [if_pos h1]
        have ht := tail_len (ts := ts) (level_ne h1)
        refine (C (n + 1) d ts.tail (by omega)).next fun t1 b k1 => ?_
        by_cases h2 : n = 0
        · rw [if_pos h2]; exact .ok (by show t1.length + 0 ≤ _; omega)
        · rw [if_neg h2]; exact (M n _ d t1 (by omega)).less (by show t1.length + 0 ≤ ts.length + 0; omega)
      · rw [if_neg h1]; exact .ok (Nat.le_refl _)
    | factor =>
      simp only [Md.c] at hf
      simp only [body]
      by_cases h1 : 20 < d
      · rw [if_pos h1]; exact .bad
      rw [if_neg h1]
      by_cases h2 : textOf ts = [45]
      · rw [if_pos h2]
        have ht := tail_len (ts := ts) (by rw [h2]; exact List.cons_ne_nil _ _)
        exact (F _ _ (by omega)).next fun t1 a k1 => .ok (by show t1.length + 1 ≤ _; omega)
      rw [if_neg h2]
      by_cases h3 : textOf ts = [40]
      · rw [if_pos h3]
        have ht := tail_len (ts := ts) (by rw [h3]; exact List.cons_ne_nil _ _)
        exact (W _ _ (by omega)).next fun t1 a k1 => (must_good (List.cons_ne_nil _ _) t1).next fun t2 _ k2 => .ok (by show t2.length + 1 ≤ _; omega)
      rw [if_neg h3]
      by_cases h4 : textOf ts = [109, 105, 110] ∨ textOf ts = [109, 97, 120]
      · rw [if_pos h4]
        have ht := tail_len (ts := ts) (by rcases h4 with h4 | h4 <;> rw [h4] <;> exact List.cons_ne_nil _ _)
        exact (must_good (List.cons_ne_nil _ _) ts.tail).next fun t1 _ k1 => (W _ _ (by omega)).next fun t2 a k2 => (must_good (List.cons_ne_nil _ _) t2).next fun t3 _ k3 => (W _ _ (by omega)).next fun t4 b k4 => (must_good (List.cons_ne_nil _ _) t4).next fun t5 _ k5 => .ok (by show t5.length + 1 ≤ _; omega)
      rw [if_neg h4]
      cases ts with
      | nil => exact .bad
      | cons t r =>
        cases hl : leaf t with
        | none => simp only [hl]; exact .bad
        | some x => simp only [hl]; exact .ok (Nat.le_refl _)
def ex (en : Nat) (m : Md) (d : Nat) (ts : List Tok) : Option (R Tr) := run en (10 * ts.length + m.c + 1) m d ts
theorem ex_good (en : Nat) (m : Md) (d : Nat) (ts : List Tok) : Good m.takes ts.length (ex en m d ts) := run_good en _ m d ts (Nat.lt_succ_self _)
theorem run_ex {en f : Nat} {m : Md} {d : Nat} {ts : List Tok} {r : R Tr} (h : run en f m d ts = some r) : ex en m d ts = some r := by
  obtain ⟨r', h', _⟩ := ex_good en m d ts
  have a := run_more (Nat.le_max_left f (10 * ts.length + m.c + 1)) m d ts r h
  have b := run_more (Nat.le_max_right f (10 * ts.length + m.c + 1)) m d ts r' h'
  rw [h', ← a, b]
theorem les_ex (en f : Nat) : Les (run en f) (ex en) := fun _ _ _ _ h => run_ex h
theorem ex_eq (en : Nat) (m : Md) (d : Nat) (ts : List Tok) : ex en m d ts = body en (ex en) m d ts := by
  obtain ⟨r, h, _⟩ := ex_good en m d ts
  rw [h]
  exact (body_les (les_ex en (10 * ts.length + m.c)) m d ts r h).symm
def Md.sz : Md → Nat
  | .more _ a => a.size | _ => 0
def Few (n : Nat) {α : Type} (sz : α → Nat) (x : Option (R α)) : Prop := ∀ ts a, x = some (.ok ts a) → sz a + ts.length ≤ n
theorem Few.next {α β : Type} {x : Option (R α)} {k : List Tok → α → Option (R β)} {n m : Nat} {sz : α → Nat} {sy : β → Nat} (h : Few n sz x) (hk : ∀ ts a, sz a + ts.length ≤ n → Few m sy (k ts a)) : Few m sy (R.next x k) := by
  intro ts b e
  cases x with
  | none => cases e
  | some r =>
    cases r with
    | bad e' p => cases e
    | ok t1 a => exact hk t1 a (h t1 a rfl) ts b e
theorem Few.ok {α : Type} {m : Nat} {sz : α → Nat} {ts : List Tok} {a : α} (h : sz a + ts.length ≤ m) : Few m sz (some (R.ok ts a)) := fun ts' a' e => by cases e; exact h
theorem Few.bad {α : Type} {m e p : Nat} {sz : α → Nat} : Few m sz (some (R.bad (α := α) e p)) := fun ts a k => by cases k
theorem Few.less {α : Type} {n m : Nat} {sz : α → Nat} {x : Option (R α)} (h : Few n sz x) (hm : n ≤ m) : Few m sz x := fun ts a e => Nat.le_trans (h ts a e) hm
theorem must_few {en : Nat} {s : List UInt8} (hs : s ≠ []) (ts : List Tok) : Few ts.length (fun _ => 1) (must en s ts) := by
  unfold must
  by_cases h : textOf ts = s
  · rw [if_pos h]; exact .ok (by have := tail_len (ts := ts) (by rw [h]; exact hs); omega)
  · rw [if_neg h]; exact .bad
theorem run_few (en : Nat) : ∀ (f : Nat) (m : Md) (d : Nat) (ts : List Tok), Few (m.sz + ts.length) Tr.size (run en f m d ts) := by
  intro f
  induction f with
  | zero => intro m d ts t a e; cases e
  | succ f ih =>
    intro m d ts
    have W : ∀ d ts, Few ts.length Tr.size (run en f .whole d ts) := fun d ts => (ih .whole d ts).less (by simp [Md.sz])
    have F : ∀ d ts, Few ts.length Tr.size (run en f .factor d ts) := fun d ts => (ih .factor d ts).less (by simp [Md.sz])
    have C : ∀ n d ts, Few ts.length Tr.size (run en f (.chain n) d ts) := fun n d ts => (ih (.chain n) d ts).less (by simp [Md.sz])
    have M : ∀ n a d ts, Few (a.size + ts.length) Tr.size (run en f (.more n a) d ts) := fun n a d ts => ih (.more n a) d ts
    show Few _ _ (body en (run en f) m d ts)
    cases m with
    | whole =>
      simp only [body]
      by_cases h1 : 20 < d
      · rw [if_pos h1]; exact .bad
      rw [if_neg h1]
      by_cases h2 : textOf ts = [105, 102]
      · rw [if_pos h2]
        have ht := tail_len (ts := ts) (by rw [h2]; exact List.cons_ne_nil _ _)
        exact (W _ _).next fun t1 a k1 => (must_few (List.cons_ne_nil _ _) t1).next fun t2 _ k2 => (W _ _).next fun t3 b k3 => (must_few (List.cons_ne_nil _ _) t3).next fun t4 _ k4 => (W _ _).next fun t5 c k5 => .ok (by simp only [Tr.size, Md.sz]; omega)
      · rw [if_neg h2]; exact (C 0 d ts).less (by simp only [Md.sz]; omega)
    | chain n =>
      simp only [body]
      by_cases h1 : 3 ≤ n
      · rw [if_pos h1]; exact (F d ts).less (by simp only [Md.sz]; omega)
      · rw [if_neg h1]
        exact (C (n + 1) d ts).next fun t1 a k1 => (M n a d t1).less (by simp only [Md.sz]; omega)
    | more n a =>
      simp only [body]
      by_cases h1 : textOf ts ∈ level n
      · rw [if_pos h1]
        have ht := tail_len (ts := ts) (level_ne h1)
        refine (C (n + 1) d ts.tail).next fun t1 b k1 => ?_
        by_cases h2 : n = 0
        · rw [if_pos h2]; exact .ok (by simp only [Tr.size, Md.sz]; omega)
        · rw [if_neg h2]; exact (M n _ d t1).less (by simp only [Tr.size, Md.sz]; omega)
      · rw [if_neg h1]; exact .ok (by simp only [Md.sz]; omega)
    | factor =>
      simp only [body]
      by_cases h1 : 20 < d
      · rw [if_pos h1]; exact .bad
      rw [if_neg h1]
      by_cases h2 : textOf ts = [45]
      · rw [if_pos h2]
        have ht := tail_len (ts := ts) (by rw [h2]; exact List.cons_ne_nil _ _)
        exact (F _ _).next fun t1 a k1 => .ok (by simp only [Tr.size, Md.sz]; omega)
      rw [if_neg h2]
      by_cases h3 : textOf ts = [40]
      · rw [if_pos h3]
        have ht := tail_len (ts := ts) (by rw [h3]; exact List.cons_ne_nil _ _)
        exact (W _ _).next fun t1 a k1 => (must_few (List.cons_ne_nil _ _) t1).next fun t2 _ k2 => .ok (by simp only [Md.sz]; omega)
      rw [if_neg h3]
      by_cases h4 : textOf ts = [109, 105, 110] ∨ textOf ts = [109, 97, 120]
      · rw [if_pos h4]
        have ht := tail_len (ts := ts) (by rcases h4 with h4 | h4 <;> rw [h4] <;> exact List.cons_ne_nil _ _)
        exact (must_few (List.cons_ne_nil _ _) ts.tail).next fun t1 _ k1 => (W _ _).next fun t2 a k2 => (must_few (List.cons_ne_nil _ _) t2).next fun t3 _ k3 => (W _ _).next fun t4 b k4 => (must_few (List.cons_ne_nil _ _) t4).next fun t5 _ k5 => .ok (by simp only [Tr.size, Md.sz]; omega)
      rw [if_neg h4]
      cases ts with
      | nil => exact .bad
      | cons t r =>
        cases hl : leaf t with
        | none => simp only [hl]; exact .bad
        | some x =>
          simp only [hl]
          have hx : x.size = 1 := by
            unfold leaf at hl
            (repeat' split at hl) <;> first | (cases hl; rfl) | cases hl
          exact .ok (by simp only [List.length_cons, Md.sz]; omega)
theorem ex_few (en : Nat) (m : Md) (d : Nat) (ts : List Tok) : Few (m.sz + ts.length) Tr.size (ex en m d ts) := run_few en _ m d ts
end PTree

namespace PLex
theorem Lone.run {k : Nat} {u : List UInt8} (h : Lone kindOf k u) (hk : k = 2 ∨ k = 3 ∨ k = 4) : kindOf u = k := by
  obtain ⟨c, r, rfl, h1, _, h4⟩ := h
  have e1 : (step kindOf (c :: r)).1 = k := by rw [h1]
  have e2 : (step kindOf (c :: r)).2 = (c :: r).length := by rw [h1]
  simp only [step] at e1 e2
  by_cases g1 : c = 32 ∨ c = 10
  · rw [if_pos g1] at e1; simp only [] at e1; omega
  rw [if_neg g1, if_neg h4] at e1 e2
  by_cases g2 : isLet c = true
  · rw [if_pos g2] at e1
    simp only [] at e1
    split at e1 <;> omega
  rw [if_neg g2] at e1 e2
  by_cases g4 : isDig c = true
  · rw [if_pos g4] at e1 e2
    simp only [List.length_cons] at e1 e2
    have e3 : r.takeWhile isRun = r := by
      have := take_takeWhile (p := isRun) r
      rw [show (r.takeWhile isRun).length = r.length by omega, List.take_length] at this
      exact this.symm
    rw [e3] at e1; exact e1
  rw [if_neg g4] at e1
  by_cases g5 : isSgn c = true
  · rw [if_pos g5] at e1; simp only [] at e1; omega
  · rw [if_neg g5] at e1; simp only [] at e1; omega
theorem Lone.amount {u : List UInt8} (h : Lone kindOf 3 u) : ∃ n, PMoney.parse u = some n := by
  have h1 := h.run (.inr (.inl rfl))
  unfold kindOf at h1
  by_cases g : (PMoney.parse u).isSome = true
  · exact Option.isSome_iff_exists.1 g
  · rw [if_neg g] at h1; (repeat' split at h1) <;> omega
theorem Lone.percent {u : List UInt8} (h : Lone kindOf 4 u) : ∃ n, PRate.parse u = some n := by
  have h1 := h.run (.inr (.inr rfl))
  unfold kindOf at h1
  by_cases g : (PRate.parse u).isSome = true
  · exact Option.isSome_iff_exists.1 g
  · rw [if_neg g] at h1; (repeat' split at h1) <;> omega
theorem Lone.whole {u : List UInt8} (h : Lone kindOf 2 u) : PLex.whole u = true := by
  have h1 := h.run (.inl rfl)
  unfold kindOf at h1
  by_cases g : PLex.whole u = true
  · exact g
  · rw [if_neg g] at h1; (repeat' split at h1) <;> omega
theorem whole_digs {u : List UInt8} (h : PLex.whole u = true) : (∀ x ∈ u, 48 ≤ x.toNat ∧ x.toNat ≤ 57) ∧ u.length ≤ 9 := by
  unfold PLex.whole at h
  simp only [Bool.and_eq_true, List.all_eq_true, decide_eq_true_eq] at h
  refine ⟨fun x hx => ?_, by omega⟩
  have := h.1 x hx
  unfold isDig at this
  simpa using this
end PLex
namespace PTree
theorem numOf_next {u : List UInt8} {t : Nat} (h : t < u.length) : numOf (u.take (t + 1)) = 10 * numOf (u.take t) + (u[t].toNat - 48) := by
  rw [List.take_succ_eq_append_getElem h, numOf, List.foldl_append]; rfl
theorem numOf_less {u : List UInt8} (hd : ∀ x ∈ u, 48 ≤ x.toNat ∧ x.toNat ≤ 57) : ∀ t, t ≤ u.length → numOf (u.take t) + 1 ≤ 10 ^ t
  | 0, _ => by simp [numOf]
  | t + 1, h => by
    have ih := numOf_less hd t (by omega)
    have h1 := hd u[t] (List.getElem_mem (by omega))
    rw [numOf_next (by omega), Nat.pow_succ]; omega
end PTree
namespace PTree
theorem decFrom_foldl {l : List UInt8} (hd : ∀ x ∈ l, 48 ≤ x.toNat ∧ x.toNat ≤ 57) : ∀ a, Go.Lib.decFrom a l = some (l.foldl (fun n c => 10 * n + (c.toNat - 48)) a) := by
  induction l with
  | nil => intro a; rfl
  | cons b r ih =>
    intro a
    have hb := hd b (List.mem_cons_self ..)
    simp only [Go.Lib.decFrom, Go.Lib.digitVal, if_pos hb, List.foldl_cons]
    rw [ih (fun x hx => hd x (List.mem_cons_of_mem _ hx)), Nat.mul_comm a 10]
theorem atoi_num {l : List UInt8} (h : PLex.whole l = true) : Go.Lib.atoi l = some (numOf l : Nat) := by
  obtain ⟨hd, hl⟩ := PLex.whole_digs h
  have h0 : l ≠ [] := by rintro rfl; simp [PLex.whole] at h
  cases l with
  | nil => exact absurd rfl h0
  | cons b r =>
    have hb := hd b (List.mem_cons_self ..)
    have n1 : (b == 45) = false := by rw [beq_eq_false_iff_ne]; rintro rfl; simp at hb
    have n2 : (b == 43) = false := by rw [beq_eq_false_iff_ne]; rintro rfl; simp at hb
    simp only [Go.Lib.atoi, n1, n2, Bool.false_eq_true, if_false, Go.Lib.decNat, List.isEmpty_cons]
    rw [decFrom_foldl hd]; rfl
theorem num_small {l : List UInt8} (h : PLex.whole l = true) : numOf l ≤ 999999999 := by
  obtain ⟨hd, hl⟩ := PLex.whole_digs h
  have h1 := numOf_less hd l.length (Nat.le_refl _)
  rw [List.take_length] at h1
  have h2 := Nat.pow_le_pow_right (n := 10) (by decide) hl
  have h3 : (10 : Nat) ^ 9 = 1000000000 := rfl
  omega
end PTree

namespace PTree
open PLex (Tok)

structure Rl where
  kind : List UInt8
  name : List UInt8
  tree : Tr
deriving DecidableEq
def rulesF (en : Nat) : Nat → Nat → List Tok → Option (R (List Rl))
  | _, _, [] => some (.ok [] [])
  | 0, _, _ :: _ => none
  | f + 1, c, t :: ts =>
    if textOf (t :: ts) ∉ kinds then some (.bad 2 t.at_)
    else if 59 < c then some (.bad 9 t.at_)
    else match ts with
      | [] => some (.bad 2 en)
      | n :: r =>
        if n.kind ≠ 1 ∨ n.text ∈ takenL then some (.bad 2 n.at_)
        else R.next (must en [61] r) fun t1 _ => R.next (ex en .whole 1 t1) fun t2 x => R.next (must en [59] t2) fun t3 _ =>
          R.next (rulesF en f (c + 1) t3) fun t4 rs => some (.ok t4 (⟨textOf (t :: ts), n.text, x⟩ :: rs))
theorem rulesF_more (en : Nat) : ∀ (f g c : Nat) (ts : List Tok), ts.length ≤ f → ts.length ≤ g → rulesF en f c ts = rulesF en g c ts
  | f, g, c, [], _, _ => by cases f <;> cases g <;> rfl
  | 0, _, _, _ :: _, h, _ => by simp at h
  | _, 0, _, _ :: _, _, h => by simp at h
  | f + 1, g + 1, c, t :: ts, hf, hg => by
    simp only [List.length_cons] at hf hg
    simp only [rulesF]
    by_cases h1 : textOf (t :: ts) ∉ kinds
    · rw [if_pos h1, if_pos h1]
    rw [if_neg h1, if_neg h1]
    by_cases h2 : 59 < c
    · rw [if_pos h2, if_pos h2]
    rw [if_neg h2, if_neg h2]
    cases ts with
    | nil => rfl
    | cons n r =>
      simp only []
      by_cases h3 : n.kind ≠ 1 ∨ n.text ∈ takenL
      · rw [if_pos h3, if_pos h3]
      rw [if_neg h3, if_neg h3]
      obtain ⟨x1, e1, g1⟩ := must_good (en := en) (s := [61]) (List.cons_ne_nil _ _) r
      rw [e1]
      cases x1 with
      | bad e p => rfl
      | ok t1 a =>
        have l1 := g1 _ _ rfl
        obtain ⟨x2, e2, g2⟩ := ex_good en .whole 1 t1
        simp only [R.next]
        rw [e2]
        cases x2 with
        | bad e p => rfl
        | ok t2 x =>
          have l2 := g2 _ _ rfl
          simp only []
          obtain ⟨x3, e3, g3⟩ := must_good (en := en) (s := [59]) (List.cons_ne_nil _ _) t2
          rw [e3]
          cases x3 with
          | bad e p => rfl
          | ok t3 a3 =>
            have l3 := g3 _ _ rfl
            simp only []
            simp only [List.length_cons] at hf hg
            rw [rulesF_more en f g (c + 1) t3 (by omega) (by omega)]
def rules (en c : Nat) (ts : List Tok) : Option (R (List Rl)) := rulesF en ts.length c ts
theorem rules_nil (en c : Nat) : rules en c [] = some (.ok [] []) := rfl
theorem rules_cons (en c : Nat) (t : Tok) (ts : List Tok) : rules en c (t :: ts) =
    if textOf (t :: ts) ∉ kinds then some (.bad 2 t.at_)
    else if 59 < c then some (.bad 9 t.at_)
    else match ts with
      | [] => some (.bad 2 en)
      | n :: r =>
        if n.kind ≠ 1 ∨ n.text ∈ takenL then some (.bad 2 n.at_)
        else R.next (must en [61] r) fun t1 _ => R.next (ex en .whole 1 t1) fun t2 x => R.next (must en [59] t2) fun t3 _ =>
          R.next (rules en (c + 1) t3) fun t4 rs => some (.ok t4 (⟨textOf (t :: ts), n.text, x⟩ :: rs)) := by
  unfold rules
  rw [List.length_cons]
  simp only [rulesF]
  by_cases h1 : textOf (t :: ts) ∉ kinds
  · rw [if_pos h1, if_pos h1]
  rw [if_neg h1, if_neg h1]
  by_cases h2 : 59 < c
  · rw [if_pos h2, if_pos h2]
  rw [if_neg h2, if_neg h2]
  cases ts with
  | nil => rfl
  | cons n r =>
    simp only []
    by_cases h3 : n.kind ≠ 1 ∨ n.text ∈ takenL
    · rw [if_pos h3, if_pos h3]
    rw [if_neg h3, if_neg h3]
    obtain ⟨x1, e1, g1⟩ := must_good (en := en) (s := [61]) (List.cons_ne_nil _ _) r
    rw [e1]
    cases x1 with
    | bad e p => rfl
    | ok t1 a =>
      have l1 := g1 _ _ rfl
      obtain ⟨x2, e2, g2⟩ := ex_good en .whole 1 t1
      simp only [R.next]
      rw [e2]
      cases x2 with
      | bad e p => rfl
      | ok t2 x =>
        have l2 := g2 _ _ rfl
        simp only []
        obtain ⟨x3, e3, g3⟩ := must_good (en := en) (s := [59]) (List.cons_ne_nil _ _) t2
        rw [e3]
        cases x3 with
        | bad e p => rfl
        | ok t3 a3 =>
          have l3 := g3 _ _ rfl
          have k2 : t2.length + 1 ≤ t1.length := l2
          simp only []
          rw [rulesF_more en _ t3.length (c + 1) t3 (by rw [List.length_cons]; omega) (Nat.le_refl _)]
structure Row where
  kind : List UInt8
  name : List UInt8
  root : Nat
deriving DecidableEq
def exprsOf : Nat → List Rl → List Ex
  | _, [] => []
  | o, r :: rs => r.tree.flat o ++ exprsOf (o + r.tree.size) rs
def rowsOf : Nat → List Rl → List Row
  | _, [] => []
  | o, r :: rs => ⟨r.kind, r.name, o + r.tree.size - 1⟩ :: rowsOf (o + r.tree.size) rs
def sizeOf (rs : List Rl) : Nat := (rs.map (fun r => r.tree.size)).sum
theorem exprsOf_len : ∀ (o : Nat) (rs : List Rl), (exprsOf o rs).length = sizeOf rs
  | _, [] => rfl
  | o, r :: rs => by simp only [exprsOf, List.length_append, Tr.flat_len, exprsOf_len, sizeOf, List.map_cons, List.sum_cons]
theorem rowsOf_len : ∀ (o : Nat) (rs : List Rl), (rowsOf o rs).length = rs.length
  | _, [] => rfl
  | o, r :: rs => by simp only [rowsOf, List.length_cons, rowsOf_len]
theorem exprsOf_append : ∀ (o : Nat) (rs0 rs1 : List Rl), exprsOf o (rs0 ++ rs1) = exprsOf o rs0 ++ exprsOf (o + sizeOf rs0) rs1
  | _, [], _ => by simp [exprsOf, sizeOf]
  | o, r :: rs0, rs1 => by
    simp only [List.cons_append, exprsOf, exprsOf_append, List.append_assoc, sizeOf, List.map_cons, List.sum_cons]
    rw [Nat.add_assoc]
theorem rowsOf_append : ∀ (o : Nat) (rs0 rs1 : List Rl), rowsOf o (rs0 ++ rs1) = rowsOf o rs0 ++ rowsOf (o + sizeOf rs0) rs1
  | _, [], _ => by simp [rowsOf, sizeOf]
  | o, r :: rs0, rs1 => by
    simp only [List.cons_append, rowsOf, rowsOf_append, sizeOf, List.map_cons, List.sum_cons]
    rw [Nat.add_assoc]
def parse (l : List UInt8) : Option (R (List Rl)) := match PLex.all PLex.kindOf 0 l with
  | (some q, _) => some (.bad 2 q)
  | (none, ts) => rules l.length 0 ts
def toldR (en : Nat) (r : Option (R (List Rl))) (rs0 : List Rl) (ts : List Tok) : Prop := r = R.next (rules en rs0.length ts) fun t rs => some (.ok t (rs0 ++ rs))
theorem toldR_first (en : Nat) (ts : List Tok) : toldR en (rules en 0 ts) [] ts := by
  unfold toldR
  simp only [List.length_nil, List.nil_append]
  cases rules en 0 ts with
  | none => rfl
  | some r => cases r <;> rfl
theorem toldR_last {en : Nat} {r : Option (R (List Rl))} {rs0 : List Rl} (h : toldR en r rs0 []) : r = some (.ok [] rs0) := by
  unfold toldR at h; rw [h, rules_nil]; simp [R.next]
end PTree

namespace Go.Proofs.YtdkcdgjpcojdfaaGreatDoor
open Go.RowKit

def letL : ByteArray := { data := #[97, 98, 99, 100, 101, 102, 103, 104, 105, 106, 107, 108, 109, 110, 111, 112, 113, 114, 115, 116, 117, 118, 119, 120, 121, 122] }
def alL : ByteArray := { data := #[97, 98, 99, 100, 101, 102, 103, 104, 105, 106, 107, 108, 109, 110, 111, 112, 113, 114, 115, 116, 117, 118, 119, 120, 121, 122, 48, 49, 50, 51, 52, 53, 54, 55, 56, 57] }
def runL : ByteArray := { data := #[48, 49, 50, 51, 52, 53, 54, 55, 56, 57, 46, 37] }
def sgnL : ByteArray := { data := #[61, 60, 62, 43, 45, 42, 40, 41, 44, 59] }
theorem each_byte {p q : UInt8 → Bool} (h : ∀ n : Fin 256, p (UInt8.ofNat n.val) = q (UInt8.ofNat n.val)) (c : UInt8) : p c = q c := by
  have := h ⟨c.toNat, c.toNat_lt⟩
  simpa using this
theorem let_in (c : UInt8) : inB c letL.data.toList = PLex.isLet c := each_byte (p := fun c => inB c letL.data.toList) (by decide +kernel) c
theorem al_in (c : UInt8) : inB c alL.data.toList = PLex.isAl c := each_byte (p := fun c => inB c alL.data.toList) (by decide +kernel) c
theorem run_in (c : UInt8) : inB c runL.data.toList = PLex.isRun c := each_byte (p := fun c => inB c runL.data.toList) (by decide +kernel) c
theorem sgn_in (c : UInt8) : inB c sgnL.data.toList = PLex.isSgn c := each_byte (p := fun c => inB c sgnL.data.toList) (by decide +kernel) c
theorem endOf_by {l : List UInt8} {p : UInt8 → Bool} (h : ∀ c, inB c l = p c) {s : ByteArray} {j : Nat} (hj : j < s.size) (hp : p s[j] = true) :
    endOf l s j = j + (1 + ((s.data.toList.drop (j + 1)).takeWhile p).length) := by
  have e : (fun c => inB c l) = p := by funext c; exact h c
  unfold endOf
  rw [e, drop_at hj, List.takeWhile_cons, if_pos hp, List.length_cons]; omega
theorem let_al {c : UInt8} (h : PLex.isLet c = true) : PLex.isAl c = true := by unfold PLex.isAl; rw [h]; rfl
theorem dig_run {c : UInt8} (h : PLex.isDig c = true) : PLex.isRun c = true := by unfold PLex.isRun; rw [h]; rfl
def stepAt (s : ByteArray) (j : Nat) : Nat × Nat := PLex.step PLex.kindOf (s.data.toList.drop j)
theorem stepAt_blank {s : ByteArray} {j : Nat} (h : j < s.size) (hc : s[j] = 32 ∨ s[j] = 10) : stepAt s j = (6, 1) := by
  unfold stepAt; rw [drop_at h]; simp only [PLex.step]; rw [if_pos hc]
theorem stepAt_comment {s : ByteArray} {j : Nat} (h : j < s.size) (hc : s[j] = 35) : stepAt s j = (6, 1 + ((s.data.toList.drop (j + 1)).takeWhile (fun d => d != 10)).length) := by
  unfold stepAt; rw [drop_at h]; simp only [PLex.step]; rw [if_neg (by rw [hc]; decide), if_pos hc]
theorem stepAt_word {s : ByteArray} {j : Nat} (h : j < s.size) (h1 : ¬ (s[j] = 32 ∨ s[j] = 10)) (h2 : s[j] ≠ 35) (hl : PLex.isLet s[j] = true) : stepAt s j = (if endOf alL.data.toList s j - j < 13 then 1 else 0, endOf alL.data.toList s j - j) := by
  rw [endOf_by al_in h (let_al hl), Nat.add_sub_cancel_left]
  unfold stepAt; rw [drop_at h]; simp only [PLex.step]; rw [if_neg h1, if_neg h2, if_pos hl]
theorem stepAt_run {s : ByteArray} {j : Nat} (h : j < s.size) (h1 : ¬ (s[j] = 32 ∨ s[j] = 10)) (h2 : s[j] ≠ 35) (hl : PLex.isLet s[j] = false) (hd : PLex.isDig s[j] = true) :
    stepAt s j = (PLex.kindOf ((s.data.toList.drop j).take (endOf runL.data.toList s j - j)), endOf runL.data.toList s j - j) := by
  rw [endOf_by run_in h (dig_run hd), Nat.add_sub_cancel_left]
  unfold stepAt; rw [drop_at h]; simp only [PLex.step]; rw [if_neg h1, if_neg h2, if_neg (by rw [hl]; exact Bool.false_ne_true), if_pos hd]
  rw [Nat.add_comm 1, List.take_succ_cons, PLex.take_takeWhile]
theorem stepAt_sign {s : ByteArray} {j : Nat} (h : j < s.size) (h1 : ¬ (s[j] = 32 ∨ s[j] = 10)) (h2 : s[j] ≠ 35) (hl : PLex.isLet s[j] = false) (hd : PLex.isDig s[j] = false) (hg : PLex.isSgn s[j] = true) :
    stepAt s j = (5, if PLex.two s[j] (s.data.toList.drop (j + 1)) = true then 2 else 1) := by
  unfold stepAt; rw [drop_at h]; simp only [PLex.step]; rw [if_neg h1, if_neg h2, if_neg (by rw [hl]; exact Bool.false_ne_true), if_neg (by rw [hd]; exact Bool.false_ne_true), if_pos hg]
theorem stepAt_none {s : ByteArray} {j : Nat} (h : j < s.size) (h1 : ¬ (s[j] = 32 ∨ s[j] = 10)) (h2 : s[j] ≠ 35) (hl : PLex.isLet s[j] = false) (hd : PLex.isDig s[j] = false) (hg : PLex.isSgn s[j] = false) : stepAt s j = (0, 1) := by
  unfold stepAt; rw [drop_at h]; simp only [PLex.step]; rw [if_neg h1, if_neg h2, if_neg (by rw [hl]; exact Bool.false_ne_true), if_neg (by rw [hd]; exact Bool.false_ne_true), if_neg (by rw [hg]; exact Bool.false_ne_true)]
def told (s : ByteArray) (j : Nat) (ts : List PLex.Tok) : Prop := PLex.all PLex.kindOf 0 s.data.toList = ((PLex.all PLex.kindOf j (s.data.toList.drop j)).1, ts ++ (PLex.all PLex.kindOf j (s.data.toList.drop j)).2)
theorem told_first (s : ByteArray) : told s 0 [] := rfl
theorem told_skip {s : ByteArray} {j n : Nat} {ts : List PLex.Tok} (h : told s j ts) (hj : j < s.size) (hs : stepAt s j = (6, n)) : told s (j + n) ts := by
  unfold told at h ⊢
  unfold stepAt at hs
  rw [drop_at hj] at h hs
  rw [h, PLex.all_cons, hs]
  simp only [if_neg (show ¬ (6 = 0) by omega), if_pos trivial]
  rw [← drop_at hj, List.drop_drop]
theorem told_word {s : ByteArray} {j k n : Nat} {ts : List PLex.Tok} (h : told s j ts) (hj : j < s.size) (hs : stepAt s j = (k, n)) (h0 : k ≠ 0) (h6 : k ≠ 6) : told s (j + n) (ts ++ [⟨k, (s.data.toList.drop j).take n, j⟩]) := by
  unfold told at h ⊢
  unfold stepAt at hs
  rw [drop_at hj] at h hs
  rw [h, PLex.all_cons, hs]
  simp only [if_neg h0, if_neg h6]
  rw [← drop_at hj, List.drop_drop, List.append_assoc]; rfl
theorem told_bad {s : ByteArray} {j n : Nat} {ts : List PLex.Tok} (h : told s j ts) (hj : j < s.size) (hs : stepAt s j = (0, n)) : (PLex.all PLex.kindOf 0 s.data.toList).1 = some j := by
  unfold told at h
  unfold stepAt at hs
  rw [drop_at hj] at h hs
  rw [h, PLex.all_cons, hs]; rfl
theorem told_last {s : ByteArray} {ts : List PLex.Tok} (h : told s s.size ts) : PLex.all PLex.kindOf 0 s.data.toList = (none, ts) := by
  unfold told at h
  rw [List.drop_of_length_le (by simp)] at h
  rw [h]; simp [PLex.all_nil]
end Go.Proofs.YtdkcdgjpcojdfaaGreatDoor

namespace PTree
open PLex (Tok Same)
def Rel {α : Type} : Option (R α) → Option (R α) → Prop
  | some (.bad e _), some (.bad e' _) => e = e'
  | some (.ok ts a), some (.ok us b) => Same ts us ∧ a = b
  | none, none => True
  | _, _ => False
theorem next_rel {α β : Type} {x y : Option (R α)} {k l : List Tok → α → Option (R β)} (h : Rel x y) (hk : ∀ ts us a, Same ts us → Rel (k ts a) (l us a)) : Rel (R.next x k) (R.next y l) := by
  match x, y, h with
  | some (.bad e _), some (.bad e' _), h => exact h
  | some (.ok ts a), some (.ok us b), h => obtain ⟨h1, rfl⟩ := h; exact hk _ _ _ h1
  | none, none, _ => trivial
theorem same_cons {t u : Tok} {ts us : List Tok} (h : Same (t :: ts) (u :: us)) : t.kind = u.kind ∧ t.text = u.text ∧ Same ts us := by
  have h' : (t.kind, t.text) = (u.kind, u.text) ∧ ts.map (fun x => (x.kind, x.text)) = us.map (fun x => (x.kind, x.text)) := by
    have := h
    unfold PLex.Same at this
    simpa using this
  exact ⟨(Prod.mk.inj h'.1).1, (Prod.mk.inj h'.1).2, h'.2⟩
theorem same_nil {us : List Tok} (h : Same [] us) : us = [] := by
  have : us.length = 0 := by have := congrArg List.length h; simpa using this.symm
  exact List.eq_nil_of_length_eq_zero this
theorem same_len {ts us : List Tok} (h : Same ts us) : ts.length = us.length := by have := congrArg List.length h; simpa using this
theorem same_tail {ts us : List Tok} (h : Same ts us) : Same ts.tail us.tail := by
  cases ts with
  | nil => rw [same_nil h]; rfl
  | cons t ts =>
    cases us with
    | nil => have := same_len h; simp at this
    | cons u us => exact (same_cons h).2.2
theorem textOf_same {ts us : List Tok} (h : Same ts us) : textOf ts = textOf us := by
  cases ts with
  | nil => rw [same_nil h]
  | cons t ts =>
    cases us with
    | nil => have := same_len h; simp at this
    | cons u us =>
      obtain ⟨h1, h2, _⟩ := same_cons h
      show (if t.kind = 1 ∨ t.kind = 5 then t.text else []) = (if u.kind = 1 ∨ u.kind = 5 then u.text else [])
      rw [h1, h2]
theorem must_rel {en en' : Nat} {s : List UInt8} {ts us : List Tok} (h : Same ts us) : Rel (must en s ts) (must en' s us) := by
  unfold must
  rw [textOf_same h]
  by_cases hs : textOf us = s
  · rw [if_pos hs, if_pos hs]; exact ⟨same_tail h, rfl⟩
  · rw [if_neg hs, if_neg hs]; rfl
theorem leaf_same {t u : Tok} (h1 : t.kind = u.kind) (h2 : t.text = u.text) : leaf t = leaf u := by unfold leaf; rw [h1, h2]
theorem body_rel {en en' : Nat} {X Y : Md → Nat → List Tok → Option (R Tr)} (h : ∀ m d ts us, Same ts us → Rel (X m d ts) (Y m d us)) (m : Md) (d : Nat) {ts us : List Tok} (hs : Same ts us) : Rel (body en X m d ts) (body en' Y m d us) := by
  have ht := textOf_same hs
  cases m with
  | whole =>
    simp only [body]
    by_cases h1 : 20 < d
    · rw [if_pos h1, if_pos h1]; rfl
    rw [if_neg h1, if_neg h1, ht]
    by_cases h2 : textOf us = [105, 102]
    · rw [if_pos h2, if_pos h2]
      exact next_rel (h _ _ _ _ (same_tail hs)) fun _ _ _ k1 => next_rel (must_rel k1) fun _ _ _ k2 => next_rel (h _ _ _ _ k2) fun _ _ _ k3 => next_rel (must_rel k3) fun _ _ _ k4 => next_rel (h _ _ _ _ k4) fun _ _ _ k5 => ⟨k5, rfl⟩
    · rw [if_neg h2, if_neg h2]; exact h _ _ _ _ hs
  | chain n =>
    simp only [body]
    by_cases h1 : 3 ≤ n
    · rw [if_pos h1, if_pos h1]; exact h _ _ _ _ hs
    · rw [if_neg h1, if_neg h1]
      exact next_rel (h _ _ _ _ hs) fun _ _ _ k1 => h _ _ _ _ k1
  | more n a =>
    simp only [body, ht]
    by_cases h1 : textOf us ∈ level n
    · rw [if_pos h1, if_pos h1]
      refine next_rel (h _ _ _ _ (same_tail hs)) fun _ _ _ k1 => ?_
      by_cases h2 : n = 0
      · rw [if_pos h2, if_pos h2]; exact ⟨k1, rfl⟩
      · rw [if_neg h2, if_neg h2]; exact h _ _ _ _ k1
    · rw [if_neg h1, if_neg h1]; exact ⟨hs, rfl⟩
  | factor =>
    simp only [body, ht]
    by_cases h1 : 20 < d
    · rw [if_pos h1, if_pos h1]; rfl
    rw [if_neg h1, if_neg h1]
    by_cases h2 : textOf us = [45]
    · rw [if_pos h2, if_pos h2]
      exact next_rel (h _ _ _ _ (same_tail hs)) fun _ _ _ k1 => ⟨k1, rfl⟩
    rw [if_neg h2, if_neg h2]
    by_cases h3 : textOf us = [40]
    · rw [if_pos h3, if_pos h3]
      exact next_rel (h _ _ _ _ (same_tail hs)) fun _ _ _ k1 => next_rel (must_rel k1) fun _ _ _ k2 => ⟨k2, rfl⟩
    rw [if_neg h3, if_neg h3]
    by_cases h4 : textOf us = [109, 105, 110] ∨ textOf us = [109, 97, 120]
    · rw [if_pos h4, if_pos h4]
      exact next_rel (must_rel (same_tail hs)) fun _ _ _ k1 => next_rel (h _ _ _ _ k1) fun _ _ _ k2 => next_rel (must_rel k2) fun _ _ _ k3 => next_rel (h _ _ _ _ k3) fun _ _ _ k4 => next_rel (must_rel k4) fun _ _ _ k5 => ⟨k5, rfl⟩
    rw [if_neg h4, if_neg h4]
    cases ts with
    | nil => rw [same_nil hs]; rfl
    | cons t r =>
      cases us with
      | nil => have := same_len hs; simp at this
      | cons u r' =>
        obtain ⟨e1, e2, e3⟩ := same_cons hs
        simp only []
        rw [leaf_same e1 e2]
        cases leaf u with
        | none => rfl
        | some x => exact ⟨e3, rfl⟩
theorem run_rel {en en' : Nat} : ∀ (f : Nat) (m : Md) (d : Nat) (ts us : List Tok), Same ts us → Rel (run en f m d ts) (run en' f m d us)
  | 0, _, _, _, _, _ => trivial
  | f + 1, m, d, _, _, h => body_rel (fun m d ts us h => run_rel f m d ts us h) m d h
theorem ex_rel {en en' : Nat} (m : Md) (d : Nat) {ts us : List Tok} (h : Same ts us) : Rel (ex en m d ts) (ex en' m d us) := by
  unfold ex
  rw [same_len h]
  exact run_rel _ m d ts us h
theorem rulesF_rel {en en' : Nat} : ∀ (f c : Nat) (ts us : List Tok), Same ts us → Rel (rulesF en f c ts) (rulesF en' f c us)
  | f, c, [], us, h => by rw [same_nil h]; cases f <;> exact ⟨rfl, rfl⟩
  | 0, c, t :: ts, us, h => by
    cases us with
    | nil => have := same_len h; simp at this
    | cons u us => trivial
  | f + 1, c, t :: ts, us, h => by
    cases us with
    | nil => have := same_len h; simp at this
    | cons u us =>
      obtain ⟨e1, e2, e3⟩ := same_cons h
      simp only [rulesF, textOf_same h]
      by_cases h1 : textOf (u :: us) ∉ kinds
      · rw [if_pos h1, if_pos h1]; rfl
      rw [if_neg h1, if_neg h1]
      by_cases h2 : 59 < c
      · rw [if_pos h2, if_pos h2]; rfl
      rw [if_neg h2, if_neg h2]
      cases ts with
      | nil => rw [same_nil e3]; rfl
      | cons n r =>
        cases us with
        | nil => have := same_len e3; simp at this
        | cons n' r' =>
          obtain ⟨f1, f2, f3⟩ := same_cons e3
          simp only [f1, f2]
          by_cases h3 : n'.kind ≠ 1 ∨ n'.text ∈ takenL
          · rw [if_pos h3, if_pos h3]; rfl
          rw [if_neg h3, if_neg h3]
          exact next_rel (must_rel f3) fun _ _ _ k1 => next_rel (ex_rel .whole 1 k1) fun _ _ _ k2 => next_rel (must_rel k2) fun _ _ _ k3 => next_rel (rulesF_rel f (c + 1) _ _ k3) fun _ _ _ k4 => ⟨k4, rfl⟩
theorem rules_rel {en en' : Nat} (c : Nat) {ts us : List Tok} (h : Same ts us) : Rel (rules en c ts) (rules en' c us) := by
  unfold rules
  rw [same_len h]
  exact rulesF_rel _ c ts us h
def wideOf (l : List Tok) : List UInt8 := l.flatMap (fun x => 32 :: (x.text ++ [10]))
end PTree

namespace Go.Proofs.YtdkcdgjpcojdfaaGreatDoor
open Go.RowKit

theorem two_small (i : Nat) (h : i < 10) : (48 :: Lib.decDigits i) = PMoney.two i := by
  unfold PMoney.two
  rw [PMoney.dec_small i h, show i / 10 = 0 by omega, show i % 10 = i by omega]; rfl
theorem two_big (i : Nat) (h : 10 ≤ i) (h' : i < 100) : Lib.decDigits i = PMoney.two i := by
  unfold PMoney.two
  rw [Lib.decDigits, dif_neg (by omega), PMoney.dec_small _ (by omega)]; rfl

theorem ret_str {a b : ByteArray} (h : a = b) : Ending.returned (.string a) = .returned (.string b) := by rw [h]
theorem ret_str0 {a b : ByteArray} {n : Int} (h : a = b) : Ending.returned (.tuple #[.string a, .int .i64 n]) = .returned (.tuple #[.string b, .int .i64 n]) := by rw [h]
theorem dec_len (i : Nat) (h : i ≤ 9223372036854775807) : (Lib.decDigits i).length ≤ 21 := by
  have := Lib.itoa_length_le i (by omega) (by omega)
  unfold Lib.itoa at this
  rw [if_neg (by omega)] at this
  simpa using this

theorem itoa_nat (n : Int) (h : 0 ≤ n) : Lib.itoa n = Lib.decDigits n.toNat := by unfold Lib.itoa; rw [if_neg (by omega)]

theorem text_pos (n : Int) (h : 0 ≤ n) : Lib.itoa (n / 100) ++ [46] ++ PMoney.two (n % 100).toNat = PMoney.text n := by
  obtain ⟨i, rfl⟩ := Int.eq_ofNat_of_zero_le h
  unfold PMoney.text PMoney.textNat PMoney.two
  rw [if_neg (by omega), itoa_nat _ (by omega), show ((i : Int) / 100).toNat = i / 100 by omega, show ((i : Int) % 100).toNat = i % 100 by omega, show (i : Int).natAbs = i by omega, show i % 100 % 10 = i % 10 by omega]
  simp
theorem text_neg (n : Int) (h : n < 0) : 45 :: PMoney.text (-n) = PMoney.text n := by
  unfold PMoney.text
  rw [if_pos h, if_neg (by omega), show (-n).natAbs = n.natAbs by omega]


theorem text_len (n : Int) (h0 : -9223372036854775808 ≤ n) (h1 : n ≤ 9223372036854775807) : 4 ≤ (PMoney.text n).length ∧ (PMoney.text n).length ≤ 30 := by
  have h2 := dec_len (n.natAbs / 100) (by omega)
  have h3 : (Lib.decDigits (n.natAbs / 100)).length ≠ 0 := fun e => PMoney.dec_ne_nil _ (List.eq_nil_of_length_eq_zero e)
  unfold PMoney.text PMoney.textNat
  split <;> simp <;> omega
theorem bytes_eq {u s : ByteArray} {l : List UInt8} (hu : u = ⟨l.toArray⟩) (h : l = s.data.toList) : (u.toList == s.toList) = true := by
  rw [beq_iff_eq, ByteArray.toList_eq, ByteArray.toList_eq, hu, ← h]
theorem bytes_ne {u s : ByteArray} {l : List UInt8} (hu : u = ⟨l.toArray⟩) (h : ¬ l = s.data.toList) : (u.toList == s.toList) = false := by
  rw [beq_eq_false_iff_ne]; intro e; apply h; rw [ByteArray.toList_eq, ByteArray.toList_eq, hu] at e; exact e
end Go.Proofs.YtdkcdgjpcojdfaaGreatDoor

namespace PRate
theorem dec_range (q : Nat) (h : q ≤ 100) : 1 ≤ (Go.Lib.decDigits q).length ∧ (Go.Lib.decDigits q).length ≤ 3 := by
  by_cases h1 : q < 10
  · rw [PMoney.dec_small q h1]; simp
  · have e : q = 10 * (q / 10) + q % 10 := by omega
    rw [e, PMoney.dec_big (q / 10) (q % 10) (by omega) (by omega), List.length_append]
    by_cases h2 : q / 10 < 10
    · rw [PMoney.dec_small _ h2]; simp
    · have e' : q / 10 = 10 * 1 + 0 := by omega
      rw [e', PMoney.dec_big 1 0 (by omega) (by omega), PMoney.dec_small 1 (by omega)]; simp
theorem text_len (n : Int) (h0 : 0 ≤ n) (h1 : n ≤ 10000) : 5 ≤ (text n).length ∧ (text n).length ≤ 7 := by
  have := dec_range (n.natAbs / 100) (by omega)
  unfold text PMoney.text
  rw [if_neg (by omega), List.length_append, PMoney.textNat_length]
  simp; omega
end PRate
