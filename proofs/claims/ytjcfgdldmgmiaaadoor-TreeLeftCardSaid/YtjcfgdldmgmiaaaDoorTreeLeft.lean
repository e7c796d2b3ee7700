/-
  A sum of numbers is read from the left.
-/
import Derived.Test.YtjcfgdldmgmiaaaDoorTreeParse
namespace PTree
open PLex (Tok Lone kindOf)
/-- The digits of a number below 1000. -/
def digs (k : Nat) : List UInt8 := (if 99 < k then [UInt8.ofNat (48 + k / 100)] else []) ++ (if 9 < k then [UInt8.ofNat (48 + k / 10 % 10)] else []) ++ [UInt8.ofNat (48 + k % 10)]
def digOk (k : Nat) : Bool := decide (PLex.all kindOf 0 (digs k ++ [59]) = (none, [⟨2, digs k, 0⟩, ⟨5, [59], (digs k).length⟩])) && (decide (PLex.all kindOf 0 (digs k) = (none, [⟨2, digs k, 0⟩])) && (decide (numOf (digs k) = k) && decide ((digs k).length ≤ 3)))
set_option maxRecDepth 100000 in
theorem dig_all : ((List.range 1000).all digOk) = true := by decide +kernel
theorem dig_at {k : Nat} (h : k < 1000) : PLex.all kindOf 0 (digs k ++ [59]) = (none, [⟨2, digs k, 0⟩, ⟨5, [59], (digs k).length⟩]) ∧ Lone kindOf 2 (digs k) ∧ numOf (digs k) = k ∧ (digs k).length ≤ 3 := by
  have h1 := List.all_eq_true.1 dig_all k (List.mem_range.2 h)
  unfold digOk at h1
  simp only [Bool.and_eq_true, decide_eq_true_eq] at h1
  obtain ⟨h1, h2, h3, h4⟩ := h1
  have hl := PLex.all_lone (K := kindOf) (digs k).length 0 (digs k) (Nat.le_refl _)
  rw [h2] at hl
  exact ⟨h1, hl _ (List.mem_singleton.2 rfl), h3, h4⟩
/-- What stands behind the first number. -/
def tailS : List Nat → List UInt8
  | [] => [59]
  | k :: r => 32 :: 43 :: 32 :: (digs k ++ tailS r)
def Tail : List Nat → List Tok → Prop
  | [], ts => ∃ p, ts = [⟨5, [59], p⟩]
  | k :: r, ts => ∃ p q us, ts = ⟨5, [43], p⟩ :: ⟨2, digs k, q⟩ :: us ∧ Tail r us
theorem plus_lone : Lone kindOf 5 [43] := ⟨43, [], rfl, by decide, by decide, by decide⟩
theorem lex_num : ∀ (r : List Nat) (k p : Nat), k < 1000 → (∀ x ∈ r, x < 1000) → ∃ us, PLex.all kindOf p (digs k ++ tailS r) = (none, ⟨2, digs k, p⟩ :: us) ∧ Tail r us
  | [], k, p, hk, _ => by
    have h := (dig_at hk).1
    have h2 := PLex.all_shift kindOf (digs k ++ [59]).length 0 p (digs k ++ [59]) (Nat.le_refl _)
    rw [Nat.zero_add, h] at h2
    refine ⟨[⟨5, [59], (digs k).length + p⟩], ?_, ⟨_, rfl⟩⟩
    show PLex.all kindOf p (digs k ++ [59]) = _
    rw [h2]
    simp [PLex.Tok.shift]
  | k' :: r, k, p, hk, hr => by
    obtain ⟨us, e, ht⟩ := lex_num r k' (p + (digs k).length + 1 + 1 + 1) (hr _ (List.mem_cons_self ..)) (fun x hx => hr x (List.mem_cons_of_mem _ hx))
    refine ⟨⟨5, [43], p + (digs k).length + 1⟩ :: ⟨2, digs k', p + (digs k).length + 1 + 1 + 1⟩ :: us, ?_, ⟨_, _, us, rfl, ht⟩⟩
    show PLex.all kindOf p (digs k ++ 32 :: ([43] ++ 32 :: (digs k' ++ tailS r))) = _
    rw [PLex.all_word (dig_at hk).2.1 PLex.sep_blank, PLex.all_blank, PLex.all_word plus_lone PLex.sep_blank, PLex.all_blank]
    rw [show p + (digs k).length + 1 + ([43] : List UInt8).length + 1 = p + (digs k).length + 1 + 1 + 1 from rfl, e]
def sumT : Tr → List Nat → Tr
  | a, [] => a
  | a, k :: r => sumT (.bin [43] a (.whole k)) r
theorem num_chain2 {en k q : Nat} {us : List Tok} (hk : k < 1000) (hu : textOf us ∉ level 2) : ex en (.chain 2) 1 (⟨2, digs k, q⟩ :: us) = some (.ok us (.whole k)) := by
  have hl : leaf ⟨2, digs k, q⟩ = some (.whole k) := by
    unfold leaf
    simp only [(dig_at hk).2.2.1]
    rfl
  have hf : ex en .factor 1 (⟨2, digs k, q⟩ :: us) = some (.ok us (.whole k)) := by
    rw [ex_eq]
    simp only [body]
    rw [if_neg (by decide), if_neg (by simp [textOf]), if_neg (by simp [textOf]), if_neg (by simp [textOf]), hl]
  rw [ex_chain2, hf]
  simp only [R.next]
  exact more_no hu
theorem tail_text : ∀ {r : List Nat} {us : List Tok}, Tail r us → textOf us = [59] ∨ textOf us = [43]
  | [], _, ⟨_, rfl⟩ => .inl rfl
  | _ :: _, _, ⟨_, _, _, rfl, _⟩ => .inr rfl
theorem more_sum {en : Nat} : ∀ (r : List Nat) (us : List Tok) (a : Tr), (∀ x ∈ r, x < 1000) → Tail r us → ∃ p, ex en (.more 1 a) 1 us = some (.ok [⟨5, [59], p⟩] (sumT a r))
  | [], _, a, _, ⟨p, rfl⟩ => ⟨p, more_no (by show ([59] : List UInt8) ∉ level 1; decide)⟩
  | k :: r, _, a, hr, ⟨p, q, us, rfl, ht⟩ => by
    obtain ⟨p', e⟩ := more_sum (en := en) r us (.bin [43] a (.whole k)) (fun x hx => hr x (List.mem_cons_of_mem _ hx)) ht
    refine ⟨p', ?_⟩
    rw [more_yes (n := 0) (by show ([43] : List UInt8) ∈ level 1; decide)]
    show (R.next (ex en (.chain 2) 1 (⟨2, digs k, q⟩ :: us)) fun t1 b => ex en (.more 1 (.bin [43] a b)) 1 t1) = _
    rw [num_chain2 (hr _ (List.mem_cons_self ..)) (by rcases tail_text ht with h | h <;> rw [h] <;> decide)]
    simp only [R.next]
    exact e
theorem whole_sum {en k q : Nat} {r : List Nat} {us : List Tok} (hk : k < 1000) (hr : ∀ x ∈ r, x < 1000) (ht : Tail r us) : ∃ p, ex en .whole 1 (⟨2, digs k, q⟩ :: us) = some (.ok [⟨5, [59], p⟩] (sumT (.whole k) r)) := by
  obtain ⟨p, e⟩ := more_sum (en := en) r us (.whole k) hr ht
  refine ⟨p, ?_⟩
  rw [ex_chain0 (by decide) (by simp [textOf]), ex_chain1, num_chain2 hk (by rcases tail_text ht with h | h <;> rw [h] <;> decide)]
  simp only [R.next]
  rw [e]
  exact more_no (by show ([59] : List UInt8) ∉ level 0; decide)
def letT : List UInt8 := [108, 101, 116, 32, 97, 32, 61, 32]
theorem let_lone : Lone kindOf 1 [108, 101, 116] := ⟨108, [101, 116], rfl, by decide +kernel, by decide, by decide⟩
theorem a_lone : Lone kindOf 1 [97] := ⟨97, [], rfl, by decide +kernel, by decide, by decide⟩
theorem eq_lone : Lone kindOf 5 [61] := ⟨61, [], rfl, by decide, by decide, by decide⟩
theorem left_parse {k : Nat} {r : List Nat} (hk : k < 1000) (hr : ∀ x ∈ r, x < 1000) : parse (letT ++ (digs k ++ tailS r)) = some (.ok [] [⟨[108, 101, 116], [97], sumT (.whole k) r⟩]) := by
  obtain ⟨us, e, ht⟩ := lex_num r k (0 + 3 + 1 + 1 + 1 + 1 + 1) hk hr
  have hl : PLex.all kindOf 0 (letT ++ (digs k ++ tailS r)) = (none, ⟨1, [108, 101, 116], 0⟩ :: ⟨1, [97], 4⟩ :: ⟨5, [61], 6⟩ :: ⟨2, digs k, 8⟩ :: us) := by
    show PLex.all kindOf 0 ([108, 101, 116] ++ 32 :: ([97] ++ 32 :: ([61] ++ 32 :: (digs k ++ tailS r)))) = _
    rw [PLex.all_word let_lone PLex.sep_blank, PLex.all_blank, PLex.all_word a_lone PLex.sep_blank, PLex.all_blank, PLex.all_word eq_lone PLex.sep_blank, PLex.all_blank]
    show ((PLex.all kindOf (0 + 3 + 1 + 1 + 1 + 1 + 1) (digs k ++ tailS r)).1, _ :: _ :: _ :: (PLex.all kindOf (0 + 3 + 1 + 1 + 1 + 1 + 1) (digs k ++ tailS r)).2) = _
    rw [e]
    rfl
  obtain ⟨en, hen⟩ : ∃ en, (letT ++ (digs k ++ tailS r)).length = en := ⟨_, rfl⟩
  unfold parse
  rw [hl, hen]
  simp only []
  obtain ⟨p, e⟩ := whole_sum (en := en) (q := 8) hk hr ht
  rw [rules_cons, if_neg (by show ¬ ([108, 101, 116] : List UInt8) ∉ kinds; decide), if_neg (by decide)]
  simp only []
  rw [if_neg (by decide)]
  have e1 : must en [61] (⟨5, [61], 6⟩ :: ⟨2, digs k, 8⟩ :: us) = some (.ok (⟨2, digs k, 8⟩ :: us) ()) := rfl
  have e2 : must en [59] [⟨5, [59], p⟩] = some (.ok [] ()) := rfl
  rw [e1]
  simp only [R.next, e, e2, rules_nil]
  rfl
/-- The rows behind the first part. -/
def rowsS : Nat → List Nat → List Ex
  | _, [] => []
  | n, k :: r => ⟨[119, 104, 111, 108, 101], [], k, 0, 0, 0⟩ :: ⟨[43], [], 0, n - 1, n, 0⟩ :: rowsS (n + 2) r
theorem sum_flat : ∀ (r : List Nat) (a : Tr) (o : Nat), (sumT a r).flat o = a.flat o ++ rowsS (o + a.size) r
  | [], a, o => by simp [sumT, rowsS]
  | k :: r, a, o => by
    show (sumT (.bin [43] a (.whole k)) r).flat o = _
    rw [sum_flat r]
    simp only [Tr.flat, Tr.size, rowsS, List.append_assoc, List.cons_append, List.nil_append]
    rw [show o + (a.size + 1 + 1) = o + a.size + 2 from rfl, Nat.add_sub_cancel]
theorem rowsS_len : ∀ (n : Nat) (r : List Nat), (rowsS n r).length = 2 * r.length
  | _, [] => rfl
  | n, k :: r => by simp only [rowsS, List.length_cons, rowsS_len]; omega
theorem rowsS_num : ∀ (r : List Nat) (n i : Nat) (h : i < r.length), (rowsS n r)[2 * i]? = some ⟨[119, 104, 111, 108, 101], [], r[i], 0, 0, 0⟩
  | [], _, _, h => by simp at h
  | k :: r, n, 0, _ => rfl
  | k :: r, n, i + 1, h => by
    show (rowsS n (k :: r))[2 * i + 1 + 1]? = _
    simp only [rowsS, List.getElem?_cons_succ]
    exact rowsS_num r (n + 2) i (by simpa using h)
theorem rowsS_sum : ∀ (r : List Nat) (n i : Nat), i < r.length → 0 < n → (rowsS n r)[2 * i + 1]? = some ⟨[43], [], 0, n + 2 * i - 1, n + 2 * i, 0⟩
  | [], _, _, h, _ => by simp at h
  | k :: r, n, 0, _, _ => rfl
  | k :: r, n, i + 1, h, hn => by
    show (rowsS n (k :: r))[2 * i + 1 + 1 + 1]? = _
    simp only [rowsS, List.getElem?_cons_succ]
    rw [rowsS_sum r (n + 2) i (by simpa using h) (by omega)]
    simp only [Option.some.injEq, Ex.mk.injEq, true_and, and_true]
    omega
/-- The program's expressions of a sum of numbers. -/
def leftE (k : Nat) (r : List Nat) : List Ex := ⟨[119, 104, 111, 108, 101], [], k, 0, 0, 0⟩ :: rowsS 1 r
theorem left_exprs (k : Nat) (r : List Nat) : exprsOf 0 [⟨[108, 101, 116], [97], sumT (.whole k) r⟩] = leftE k r := by
  simp only [exprsOf, sum_flat, List.append_nil]
  rfl
theorem leftE_len (k : Nat) (r : List Nat) : (leftE k r).length = 2 * r.length + 1 := by simp only [leftE, List.length_cons, rowsS_len]
theorem leftE_num {k : Nat} {r : List Nat} {i : Nat} (h : i < r.length + 1) : (leftE k r)[2 * i - 1]? = some ⟨[119, 104, 111, 108, 101], [], (k :: r)[i]'(by simpa using h), 0, 0, 0⟩ := by
  cases i with
  | zero => rfl
  | succ i =>
    show (leftE k r)[2 * i + 1]? = _
    simp only [leftE, List.getElem?_cons_succ, List.getElem_cons_succ]
    exact rowsS_num r 1 i (by omega)
theorem leftE_sum {k : Nat} {r : List Nat} {i : Nat} (h : i < r.length + 1) (h0 : 0 < i) : (leftE k r)[2 * i]? = some ⟨[43], [], 0, 2 * i - 2, 2 * i - 1, 0⟩ := by
  cases i with
  | zero => omega
  | succ i =>
    show (leftE k r)[2 * i + 1 + 1]? = _
    simp only [leftE, List.getElem?_cons_succ]
    rw [rowsS_sum r 1 i (by omega) (by decide)]
    simp only [Option.some.injEq, Ex.mk.injEq, true_and, and_true]
    omega
/-- What the loop builds. -/
def headS : List Nat → List UInt8
  | [] => letT
  | k :: r => letT ++ (digs k ++ r.flatMap (fun x => [32, 43, 32] ++ digs x))
theorem headS_snoc (l : List Nat) (x : Nat) : headS (l ++ [x]) = headS l ++ ((if l = [] then [] else [32, 43, 32]) ++ digs x) := by
  cases l with
  | nil => simp [headS]
  | cons k r => simp [headS]
theorem headS_end (k : Nat) (r : List Nat) : headS (k :: r) ++ [59] = letT ++ (digs k ++ tailS r) := by
  have h : ∀ r : List Nat, r.flatMap (fun x => [32, 43, 32] ++ digs x) ++ [59] = tailS r := by
    intro r
    induction r with
    | nil => rfl
    | cons y r ih => rw [List.flatMap_cons, List.append_assoc, ih]; simp [tailS]
  simp only [headS, List.append_assoc, h]
theorem headS_len : ∀ (l : List Nat), (∀ x ∈ l, x < 1000) → (headS l).length ≤ 8 + 6 * l.length
  | [], _ => by decide
  | k :: r, h => by
    have h1 : ∀ r : List Nat, (∀ x ∈ r, x < 1000) → (r.flatMap (fun x => [32, 43, 32] ++ digs x)).length ≤ 6 * r.length := by
      intro r hr
      induction r with
      | nil => simp
      | cons y r ih =>
        rw [List.flatMap_cons, List.length_append, List.length_append, List.length_cons]
        have a1 := ih (fun x hx => hr x (List.mem_cons_of_mem _ hx))
        have a2 := (dig_at (hr y (List.mem_cons_self ..))).2.2.2
        simp only [List.length_cons, List.length_nil]; omega
    have a1 := h1 r (fun x hx => h x (List.mem_cons_of_mem _ hx))
    have a2 := (dig_at (h k (List.mem_cons_self ..))).2.2.2
    simp only [headS, List.length_append, List.length_cons]
    have a3 : letT.length = 8 := rfl
    omega
end PTree
