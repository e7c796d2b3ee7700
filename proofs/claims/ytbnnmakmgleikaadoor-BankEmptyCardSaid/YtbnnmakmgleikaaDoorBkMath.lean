/-
  Files for a bank: when one is right, its text, and the one file that a text may be of. Plain facts; no program is named here.
-/
import Derived.Test.YtbnnmakmgleikaaDoorMoneyMath
import Derived.Lib.Atoi
namespace PBank
open Go

/-- A payment: its kind (a byte), its number, its amount. -/
structure Pay where
  kind : Int
  num : Int
  amt : Int
deriving DecidableEq
instance : Inhabited Pay := ⟨⟨0, 0, 0⟩⟩
def okP (p : Pay) : Bool := decide ((p.kind = 69 ∨ p.kind = 67) ∧ 1 ≤ p.num ∧ p.num ≤ 2147483647 ∧ 1 ≤ p.amt ∧ p.amt ≤ 1125899906842624)
/-- Is the first one ahead? -/
def lt (p q : Pay) : Bool := decide (q.kind < p.kind ∨ q.kind = p.kind ∧ p.num < q.num)
/-- May a payment stand at a place? -/
def good (l : List Pay) (i : Nat) : Bool := okP (l.getD i ⟨0, 0, 0⟩) && (i == 0 || lt (l.getD (i - 1) ⟨0, 0, 0⟩) (l.getD i ⟨0, 0, 0⟩))
structure Rt (per : Int) (l : List Pay) : Prop where
  lo : 22800 ≤ per
  hi : per ≤ 35999
  few : l.length ≤ 4999
  all : ∀ i, i < l.length → good l i = true
instance (per : Int) (l : List Pay) : Decidable (Rt per l) :=
  decidable_of_iff ((22800 ≤ per ∧ per ≤ 35999 ∧ l.length ≤ 4999) ∧ ∀ i, i < l.length → good l i = true) ⟨fun ⟨⟨a, b, c⟩, d⟩ => ⟨a, b, c, d⟩, fun h => ⟨⟨h.lo, h.hi, h.few⟩, h.all⟩⟩
theorem Rt.ok {per : Int} {l : List Pay} (h : Rt per l) {i : Nat} (hi : i < l.length) : okP l[i] = true := by
  have := h.all i hi
  unfold good at this
  rw [Bool.and_eq_true] at this
  have := this.1
  rwa [List.getD, List.getElem?_eq_getElem hi, Option.getD_some] at this
theorem okP_iff {p : Pay} : okP p = true ↔ (p.kind = 69 ∨ p.kind = 67) ∧ 1 ≤ p.num ∧ p.num ≤ 2147483647 ∧ 1 ≤ p.amt ∧ p.amt ≤ 1125899906842624 := by
  unfold okP; rw [decide_eq_true_eq]
theorem Rt.mem {per : Int} {l : List Pay} (h : Rt per l) {p : Pay} (hp : p ∈ l) : okP p = true := by
  obtain ⟨i, hi, rfl⟩ := List.getElem_of_mem hp
  exact h.ok hi

/-- A number with noughts ahead. -/
def pad (d n : Nat) : List UInt8 := List.replicate (d - (Lib.decDigits n).length) 48 ++ Lib.decDigits n
theorem dec_len_le : ∀ (d n : Nat), 0 < d → n < 10 ^ d → (Lib.decDigits n).length ≤ d
  | 0, n, h, _ => absurd h (Nat.lt_irrefl _)
  | d + 1, n, _, h => by
    by_cases hn : n < 10
    · rw [PMoney.dec_small n hn]; simp
    · have h2 : n / 10 < 10 ^ d := by
        rw [Nat.div_lt_iff_lt_mul (by decide)]
        have : (10 : Nat) ^ (d + 1) = 10 ^ d * 10 := Nat.pow_succ ..
        omega
      have hd : 0 < d := by
        cases d with
        | zero => simp at h; omega
        | succ d => exact Nat.succ_pos _
      have ih := dec_len_le d (n / 10) hd h2
      have e : Lib.decDigits n = Lib.decDigits (n / 10) ++ [UInt8.ofNat (48 + n % 10)] := by
        conv => lhs; rw [Lib.decDigits, dif_neg hn]
      rw [e, List.length_append]
      simp only [List.length_cons, List.length_nil]
      omega
theorem pad_len {d n : Nat} (hd : 0 < d) (h : n < 10 ^ d) : (pad d n).length = d := by
  have := dec_len_le d n hd h
  unfold pad
  rw [List.length_append, List.length_replicate]; omega
theorem digitVal_dig {k : Nat} (h : k < 10) : Lib.digitVal (UInt8.ofNat (48 + k)) = some k := by
  unfold Lib.digitVal
  have e : (UInt8.ofNat (48 + k)).toNat = 48 + k := by rw [UInt8.toNat_ofNat']; omega
  rw [e, if_pos (by omega)]
  congr 1; omega
theorem decFrom_append : ∀ (a b : List UInt8) (acc : Nat), Lib.decFrom acc (a ++ b) = (Lib.decFrom acc a).bind fun k => Lib.decFrom k b
  | [], b, acc => rfl
  | c :: a, b, acc => by
    simp only [List.cons_append, Lib.decFrom]
    cases Lib.digitVal c with
    | none => rfl
    | some d => exact decFrom_append a b _
theorem decFrom_dec (n : Nat) : Lib.decFrom 0 (Lib.decDigits n) = some n := by
  induction n using Nat.strongRecOn with
  | _ n ih =>
    by_cases h : n < 10
    · rw [PMoney.dec_small n h]
      simp only [Lib.decFrom, digitVal_dig h]
      simp
    · have e : Lib.decDigits n = Lib.decDigits (n / 10) ++ [UInt8.ofNat (48 + n % 10)] := by
        conv => lhs; rw [Lib.decDigits, dif_neg h]
      rw [e, decFrom_append, ih (n / 10) (by omega)]
      simp only [Option.bind_some, Lib.decFrom, digitVal_dig (show n % 10 < 10 by omega)]
      congr 1; omega
theorem decFrom_noughts (k : Nat) (l : List UInt8) : Lib.decFrom 0 (List.replicate k 48 ++ l) = Lib.decFrom 0 l := by
  induction k with
  | zero => rfl
  | succ k ih =>
    rw [List.replicate_succ, List.cons_append]
    simp only [Lib.decFrom]
    have : Lib.digitVal 48 = some 0 := by decide
    rw [this]
    exact ih
theorem dec_ne (n : Nat) : Lib.decDigits n ≠ [] := PMoney.dec_ne_nil n
theorem decFrom_pad (d n : Nat) : Lib.decFrom 0 (pad d n) = some n := by
  unfold pad; rw [decFrom_noughts, decFrom_dec]
theorem atoi_dig {l : List UInt8} {n : Nat} (h0 : l ≠ []) (h : Lib.decFrom 0 l = some n) : Lib.atoi l = some (n : Int) := by
  cases l with
  | nil => exact absurd rfl h0
  | cons b r =>
    obtain ⟨d, hd⟩ := Lib.digit_of_decFrom (b :: r) 0 n h 0 b rfl
    have hb := (Lib.digitVal_eq hd)
    have n1 : (b == 45) = false := by rw [beq_eq_false_iff_ne]; rintro rfl; exact absurd hb.1 (by decide)
    have n2 : (b == 43) = false := by rw [beq_eq_false_iff_ne]; rintro rfl; exact absurd hb.1 (by decide)
    simp only [Lib.atoi, n1, n2, Bool.false_eq_true, if_false, Lib.decNat, List.isEmpty_cons]
    rw [h]; rfl
theorem pad_ne (d n : Nat) : pad d n ≠ [] := fun h => dec_ne n (List.append_eq_nil_iff.1 h).2
theorem atoi_pad (d n : Nat) : Lib.atoi (pad d n) = some (n : Int) := atoi_dig (pad_ne d n) (decFrom_pad d n)

/-- A payment's line; all of them; a file's text. -/
def line (p : Pay) : List UInt8 := UInt8.ofNat p.kind.toNat :: (pad 10 p.num.toNat ++ (pad 16 p.amt.toNat ++ [10]))
def lines (l : List Pay) : List UInt8 := l.flatMap line
def sum (l : List Pay) : Int := (l.map (·.amt)).sum
def head (per : Int) : List UInt8 := 72 :: (pad 5 per.toNat ++ [10])
def foot (l : List Pay) : List UInt8 := 84 :: (pad 4 l.length ++ (pad 20 (sum l).toNat ++ [10]))
def txt (per : Int) (l : List Pay) : List UInt8 := head per ++ (lines l ++ foot l)
theorem lines_snoc (l : List Pay) (p : Pay) : lines (l ++ [p]) = lines l ++ line p := by unfold lines; rw [List.flatMap_append]; simp
theorem sum_snoc (l : List Pay) (p : Pay) : sum (l ++ [p]) = sum l + p.amt := by unfold sum; rw [List.map_append, List.sum_append]; simp
theorem line_len {p : Pay} (h : okP p = true) : (line p).length = 28 := by
  obtain ⟨h1, h2, h3, h4, h5⟩ := okP_iff.1 h
  have e1 := pad_len (d := 10) (n := p.num.toNat) (by decide) (by have : (10 : Nat) ^ 10 = 10000000000 := rfl; omega)
  have e2 := pad_len (d := 16) (n := p.amt.toNat) (by decide) (by have : (10 : Nat) ^ 16 = 10000000000000000 := rfl; omega)
  unfold line
  simp only [List.length_cons, List.length_append, List.length_nil, e1, e2]
theorem lines_len : ∀ {l : List Pay}, (∀ p ∈ l, okP p = true) → (lines l).length = 28 * l.length
  | [], _ => rfl
  | p :: l, h => by
    have e : lines (p :: l) = line p ++ lines l := by unfold lines; rw [List.flatMap_cons]
    rw [e, List.length_append, line_len (h p (List.mem_cons_self ..)), lines_len (fun q hq => h q (List.mem_cons_of_mem _ hq)), List.length_cons]; omega
theorem sum_bound : ∀ {l : List Pay}, (∀ p ∈ l, okP p = true) → 0 ≤ sum l ∧ sum l ≤ 1125899906842624 * (l.length : Int)
  | [], _ => by decide
  | p :: l, h => by
    have ih := sum_bound (l := l) (fun q hq => h q (List.mem_cons_of_mem _ hq))
    obtain ⟨-, -, -, h4, h5⟩ := okP_iff.1 (h p (List.mem_cons_self ..))
    have e : sum (p :: l) = p.amt + sum l := by unfold sum; simp
    rw [e, List.length_cons]
    omega
theorem head_len {per : Int} (h0 : 22800 ≤ per) (h1 : per ≤ 35999) : (head per).length = 7 := by
  have := pad_len (d := 5) (n := per.toNat) (by decide) (by have : (10 : Nat) ^ 5 = 100000 := rfl; omega)
  unfold head
  simp only [List.length_cons, List.length_append, List.length_nil, this]
theorem foot_len {per : Int} {l : List Pay} (h : Rt per l) : (foot l).length = 26 := by
  have hs := sum_bound (l := l) (fun p hp => h.mem hp)
  have hf := h.few
  have e1 := pad_len (d := 4) (n := l.length) (by decide) (by have : (10 : Nat) ^ 4 = 10000 := rfl; omega)
  have e2 := pad_len (d := 20) (n := (sum l).toNat) (by decide) (by have : (10 : Nat) ^ 20 = 100000000000000000000 := rfl; omega)
  unfold foot
  simp only [List.length_cons, List.length_append, List.length_nil, e1, e2]
theorem txt_len {per : Int} {l : List Pay} (h : Rt per l) : (txt per l).length = 33 + 28 * l.length := by
  unfold txt
  rw [List.length_append, List.length_append, head_len h.lo h.hi, lines_len (fun p hp => h.mem hp), foot_len h]; omega

/-- What a row of bytes is read to; 0: no number. -/
def num (l : List UInt8) : Int := (Lib.atoi l).getD 0
theorem num_pad (d n : Nat) : num (pad d n) = n := by unfold num; rw [atoi_pad]; rfl
/-- The payment that a line may be of. -/
def payAt (s : List UInt8) (at' : Nat) : Pay := ⟨((s.getD at' 0).toNat : Int), num ((s.drop (at' + 1)).take 10), num ((s.drop (at' + 11)).take 16)⟩
/-- How many lines of payments there are. -/
def many (s : List UInt8) : Nat := (s.length - 33) / 28
def guessL (s : List UInt8) (k : Nat) : List Pay := (List.range k).map fun i => payAt s (7 + 28 * i)
theorem guessL_snoc (s : List UInt8) (k : Nat) : guessL s (k + 1) = guessL s k ++ [payAt s (7 + 28 * k)] := by unfold guessL; rw [List.range_succ, List.map_append]; rfl
theorem guessL_len (s : List UInt8) (k : Nat) : (guessL s k).length = k := by unfold guessL; simp
/-- The one file that a text may be of; none: it is too short, or too long. -/
def inSize (s : List UInt8) : Bool := decide (33 ≤ s.length ∧ s.length ≤ 33 + 28 * 4999)
def gPer (s : List UInt8) : Int := if inSize s then num ((s.drop 1).take 5) else 0
def gPay (s : List UInt8) : List Pay := if inSize s then guessL s (many s) else []
/-- Is the text that file's? -/
def isTx (s : List UInt8) : Prop := Rt (gPer s) (gPay s) ∧ txt (gPer s) (gPay s) = s
instance (s : List UInt8) : Decidable (isTx s) := inferInstanceAs (Decidable (_ ∧ _))
theorem getD_split {A B : List UInt8} {c : UInt8} {k : Nat} (hk : A.length = k) : (A ++ c :: B).getD k 0 = c := by subst hk; simp [List.getD]
theorem drop_split {A B : List UInt8} {c : UInt8} {k : Nat} (hk : A.length = k) : (A ++ c :: B).drop (k + 1) = B := by
  subst hk
  rw [List.drop_append, show A.length + 1 - A.length = 1 by omega, List.drop_eq_nil_of_le (by omega)]; rfl
theorem payAt_line {A B : List UInt8} {p : Pay} (h : okP p = true) {k : Nat} (hk : A.length = k) : payAt (A ++ (line p ++ B)) k = p := by
  obtain ⟨h1, h2, h3, h4, h5⟩ := okP_iff.1 h
  have e1 := pad_len (d := 10) (n := p.num.toNat) (by decide) (by have : (10 : Nat) ^ 10 = 10000000000 := rfl; omega)
  have e2 := pad_len (d := 16) (n := p.amt.toNat) (by decide) (by have : (10 : Nat) ^ 16 = 10000000000000000 := rfl; omega)
  have e : A ++ (line p ++ B) = A ++ UInt8.ofNat p.kind.toNat :: (pad 10 p.num.toNat ++ (pad 16 p.amt.toNat ++ (10 :: B))) := by unfold line; simp
  rw [e]
  unfold payAt
  have d1 : (A ++ UInt8.ofNat p.kind.toNat :: (pad 10 p.num.toNat ++ (pad 16 p.amt.toNat ++ (10 :: B)))).drop (k + 1) = pad 10 p.num.toNat ++ (pad 16 p.amt.toNat ++ (10 :: B)) := drop_split hk
  have d2 : (A ++ UInt8.ofNat p.kind.toNat :: (pad 10 p.num.toNat ++ (pad 16 p.amt.toNat ++ (10 :: B)))).drop (k + 11) = pad 16 p.amt.toNat ++ (10 :: B) := by
    rw [show k + 11 = (k + 1) + 10 by omega, ← List.drop_drop, d1, List.drop_append_of_le_length (by omega), List.drop_eq_nil_of_le (by omega)]; rfl
  rw [getD_split hk, d1, d2, List.take_append_of_le_length (by omega), List.take_append_of_le_length (by omega), List.take_of_length_le (by omega), List.take_of_length_le (by omega), num_pad, num_pad]
  have hk8 : ((UInt8.ofNat p.kind.toNat).toNat : Int) = p.kind := by
    rcases h1 with h1 | h1 <;> rw [h1] <;> rfl
  rw [hk8]
  cases p
  simp only [Pay.mk.injEq, true_and] at *
  omega
theorem guessL_lines : ∀ (l : List Pay) (A B : List UInt8) (j : Nat), (∀ p ∈ l, okP p = true) → A.length = 7 + 28 * j → (List.range l.length).map (fun i => payAt (A ++ (lines l ++ B)) (7 + 28 * (j + i))) = l
  | [], _, _, _, _, _ => rfl
  | p :: l, A, B, j, h, hA => by
    have hp := h p (List.mem_cons_self ..)
    have e : lines (p :: l) = line p ++ lines l := by unfold lines; rw [List.flatMap_cons]
    have e2 : A ++ (lines (p :: l) ++ B) = (A ++ line p) ++ (lines l ++ B) := by rw [e]; simp
    have ih := guessL_lines l (A ++ line p) B (j + 1) (fun q hq => h q (List.mem_cons_of_mem _ hq)) (by rw [List.length_append, line_len hp, hA]; omega)
    rw [List.length_cons, List.range_succ_eq_map, List.map_cons, List.map_map]
    congr 1
    · rw [e, List.append_assoc]; exact payAt_line hp (by omega)
    · rw [e2]
      conv => rhs; rw [← ih]
      refine List.map_congr_left fun i _ => ?_
      show payAt _ (7 + 28 * (j + (i + 1))) = payAt _ (7 + 28 * (j + 1 + i))
      rw [show j + (i + 1) = j + 1 + i by omega]
/-- What is written is read. -/
theorem guess_txt {per : Int} {l : List Pay} (h : Rt per l) : gPer (txt per l) = per ∧ gPay (txt per l) = l := by
  have hlen := txt_len h
  have hf := h.few
  have hin : inSize (txt per l) = true := by unfold inSize; rw [decide_eq_true_eq]; omega
  have e1 := pad_len (d := 5) (n := per.toNat) (by decide) (by have : (10 : Nat) ^ 5 = 100000 := rfl; have := h.hi; omega)
  unfold gPer gPay
  rw [if_pos hin, if_pos hin]
  constructor
  · have e : txt per l = 72 :: (pad 5 per.toNat ++ (10 :: (lines l ++ foot l))) := by unfold txt head; simp
    rw [e, List.drop_succ_cons, List.drop_zero, List.take_append_of_le_length (by omega), List.take_of_length_le (by omega), num_pad]
    have := h.lo; omega
  · unfold many guessL
    rw [hlen, show (33 + 28 * l.length - 33) / 28 = l.length by omega]
    have := guessL_lines l (head per) (foot l) 0 (fun p hp => h.mem hp) (by rw [head_len h.lo h.hi])
    conv => rhs; rw [← this]
    refine List.map_congr_left fun i _ => ?_
    rw [Nat.zero_add]; rfl
theorem isTx_txt {per : Int} {l : List Pay} (h : Rt per l) : isTx (txt per l) := by
  obtain ⟨e1, e2⟩ := guess_txt h
  unfold isTx
  rw [e1, e2]
  exact ⟨h, rfl⟩
/-- Texts of other lengths are no file's. -/
theorem isTx_len {s : List UInt8} (h : isTx s) : s.length % 28 = 5 := by
  have := txt_len h.1
  rw [h.2] at this; omega
theorem txt_inj {per per' : Int} {l l' : List Pay} (h : Rt per l) (h' : Rt per' l') (e : txt per l = txt per' l') : per = per' ∧ l = l' := by
  have a := guess_txt h; have b := guess_txt h'
  rw [e] at a
  exact ⟨a.1.symm.trans b.1, a.2.symm.trans b.2⟩
end PBank
