/-
  Files for a bank: what the statements ask of them beside their texts. Plain facts; no program is named here.
-/
import Derived.Test.YtbnnmakmgleikaaDoorBkMath
namespace PBank
open Go

theorem lt_iff {p q : Pay} : lt p q = true ↔ (q.kind < p.kind ∨ q.kind = p.kind ∧ p.num < q.num) := by
  unfold lt; rw [decide_eq_true_eq]
theorem lt_trans {p q r : Pay} (h : lt p q = true) (k : lt q r = true) : lt p r = true := by
  rw [lt_iff] at *; omega
theorem lt_irrefl {p : Pay} : ¬ lt p p = true := by
  rw [lt_iff]; omega
theorem lt_asymm {p q : Pay} (h : lt p q = true) : ¬ lt q p = true := fun k => lt_irrefl (lt_trans h k)
theorem Rt.next {per : Int} {l : List Pay} (h : Rt per l) {i : Nat} {p q : Pay} (hp : l[i]? = some p) (hq : l[i + 1]? = some q) : lt p q = true := by
  have hi : i + 1 < l.length := (List.getElem?_eq_some_iff.1 hq).1
  have := h.all (i + 1) hi
  unfold good at this
  rw [Bool.and_eq_true, List.getD, List.getD, hq, show i + 1 - 1 = i from rfl, hp] at this
  simpa using this.2
theorem Rt.before {per : Int} {l : List Pay} (h : Rt per l) : ∀ (d : Nat) {i : Nat} {p q : Pay}, l[i]? = some p → l[i + d + 1]? = some q → lt p q = true
  | 0, _, _, _, hp, hq => h.next hp hq
  | d + 1, i, p, q, hp, hq => by
    have hi : i + (d + 1) + 1 < l.length := (List.getElem?_eq_some_iff.1 hq).1
    obtain ⟨r, hr⟩ : ∃ r, l[i + d + 1]? = some r := ⟨_, List.getElem?_eq_getElem (by omega)⟩
    exact lt_trans (h.before d hp hr) (h.next hr hq)
theorem Rt.lt {per : Int} {l : List Pay} (h : Rt per l) {i j : Nat} (hij : i < j) {p q : Pay} (hp : l[i]? = some p) (hq : l[j]? = some q) : PBank.lt p q = true :=
  h.before (j - i - 1) hp (by rw [show i + (j - i - 1) + 1 = j by omega]; exact hq)
/-- Two payments change their places. -/
def swap (l : List Pay) (a b : Nat) (p q : Pay) : List Pay := (l.set a q).set b p
theorem swap_len (l : List Pay) (a b : Nat) (p q : Pay) : (swap l a b p q).length = l.length := by unfold swap; simp
theorem swap_self {l : List Pay} {a : Nat} {p : Pay} (hp : l[a]? = some p) : swap l a a p p = l := by
  unfold swap
  apply List.ext_getElem?
  intro i
  by_cases h : a = i
  · subst h
    have hi : a < l.length := (List.getElem?_eq_some_iff.1 hp).1
    rw [List.getElem?_set_self (by simpa using hi), hp]
  · rw [List.getElem?_set_ne h, List.getElem?_set_ne h]
theorem swap_not {per : Int} {l : List Pay} (h : Rt per l) {a b : Nat} {p q : Pay} (hab : a ≠ b) (hp : l[a]? = some p) (hq : l[b]? = some q) : ¬ Rt per (swap l a b p q) := by
  intro h2
  have ha : a < l.length := (List.getElem?_eq_some_iff.1 hp).1
  have hb : b < l.length := (List.getElem?_eq_some_iff.1 hq).1
  have e1 : (swap l a b p q)[a]? = some q := by
    unfold swap
    rw [List.getElem?_set_ne (fun e => hab e.symm), List.getElem?_set_self ha]
  have e2 : (swap l a b p q)[b]? = some p := by
    unfold swap
    rw [List.getElem?_set_self (by simpa using hb)]
  rcases Nat.lt_or_gt_of_ne hab with g | g
  · exact lt_asymm (h.lt g hp hq) (h2.lt g e1 e2)
  · exact lt_asymm (h.lt g hq hp) (h2.lt g e2 e1)
theorem twice_not {per : Int} {l : List Pay} {a : Nat} {p : Pay} (hp : l[a]? = some p) : ¬ Rt per (l ++ [p]) := by
  intro h2
  have ha : a < l.length := (List.getElem?_eq_some_iff.1 hp).1
  exact lt_irrefl (h2.lt ha (p := p) (q := p) (by rw [List.getElem?_append_left ha]; exact hp) (by simp))
/-- The bytes of a text at their places. -/
theorem line_last {p : Pay} (h : okP p = true) : (line p)[27]? = some 10 := by
  obtain ⟨h1, h2, h3, h4, h5⟩ := okP_iff.1 h
  have e1 := pad_len (d := 10) (n := p.num.toNat) (by decide) (by have : (10 : Nat) ^ 10 = 10000000000 := rfl; omega)
  have e2 := pad_len (d := 16) (n := p.amt.toNat) (by decide) (by have : (10 : Nat) ^ 16 = 10000000000000000 := rfl; omega)
  unfold line
  rw [List.getElem?_cons_succ, List.getElem?_append_right (by omega), e1, List.getElem?_append_right (by omega), e2]; rfl
theorem lines_at : ∀ {l : List Pay}, (∀ p ∈ l, okP p = true) → ∀ {i : Nat} {p : Pay}, l[i]? = some p → ∀ {j : Nat}, j < 28 → (lines l)[28 * i + j]? = (line p)[j]?
  | [], _, _, _, h, _, _ => by simp at h
  | q :: l, h, 0, p, hp, j, hj => by
    obtain rfl : q = p := by simpa using hp
    have e : lines (q :: l) = line q ++ lines l := by unfold lines; rw [List.flatMap_cons]
    rw [e, List.getElem?_append_left (by rw [line_len (h q (List.mem_cons_self ..))]; omega), Nat.mul_zero, Nat.zero_add]
  | q :: l, h, i + 1, p, hp, j, hj => by
    have e : lines (q :: l) = line q ++ lines l := by unfold lines; rw [List.flatMap_cons]
    have hq := line_len (h q (List.mem_cons_self ..))
    rw [e, List.getElem?_append_right (by omega), hq, show 28 * (i + 1) + j - 28 = 28 * i + j by omega]
    exact lines_at (fun r hr => h r (List.mem_cons_of_mem _ hr)) (by simpa using hp) hj
theorem txt_line {per : Int} {l : List Pay} (h : Rt per l) {i : Nat} {p : Pay} (hp : l[i]? = some p) {j : Nat} (hj : j < 28) : (txt per l)[7 + 28 * i + j]? = (line p)[j]? := by
  have hh := head_len h.lo h.hi
  have hi : i < l.length := (List.getElem?_eq_some_iff.1 hp).1
  unfold txt
  rw [List.getElem?_append_right (by omega), hh, show 7 + 28 * i + j - 7 = 28 * i + j by omega,
    List.getElem?_append_left (by rw [lines_len (fun p hp => h.mem hp)]; omega)]
  exact lines_at (fun p hp => h.mem hp) hp hj
theorem txt_kind {per : Int} {l : List Pay} (h : Rt per l) {i : Nat} {p : Pay} (hp : l[i]? = some p) : (txt per l)[7 + 28 * i]? = some (UInt8.ofNat p.kind.toNat) := txt_line h hp (j := 0) (by decide)
theorem txt_end {per : Int} {l : List Pay} (h : Rt per l) {i : Nat} {p : Pay} (hp : l[i]? = some p) : (txt per l)[7 + 28 * i + 27]? = some 10 := by
  rw [txt_line h hp (j := 27) (by decide)]; exact line_last (h.mem (List.mem_of_getElem? hp))
theorem txt_h {per : Int} {l : List Pay} : (txt per l)[0]? = some 72 := rfl
theorem txt_six {per : Int} {l : List Pay} (h : Rt per l) : (txt per l)[6]? = some 10 := by
  have e1 := pad_len (d := 5) (n := per.toNat) (by decide) (by have : (10 : Nat) ^ 5 = 100000 := rfl; have := h.hi; omega)
  unfold txt
  rw [List.getElem?_append_left (by rw [head_len h.lo h.hi]; omega)]
  unfold head
  rw [List.getElem?_cons_succ, List.getElem?_append_right (by omega), e1]; rfl
theorem txt_foot {per : Int} {l : List Pay} (h : Rt per l) (j : Nat) : (txt per l)[7 + 28 * l.length + j]? = (foot l)[j]? := by
  have hh := head_len h.lo h.hi
  unfold txt
  rw [List.getElem?_append_right (by omega), hh, List.getElem?_append_right (by rw [lines_len (fun p hp => h.mem hp)]; omega), lines_len (fun p hp => h.mem hp)]
  congr 1; omega
theorem txt_t {per : Int} {l : List Pay} (h : Rt per l) : (txt per l)[7 + 28 * l.length]? = some 84 := txt_foot h 0
theorem txt_last {per : Int} {l : List Pay} (h : Rt per l) : (txt per l)[7 + 28 * l.length + 25]? = some 10 := by
  have hs := sum_bound (l := l) (fun p hp => h.mem hp)
  have hf := h.few
  have e1 := pad_len (d := 4) (n := l.length) (by decide) (by have : (10 : Nat) ^ 4 = 10000 := rfl; omega)
  have e2 := pad_len (d := 20) (n := (sum l).toNat) (by decide) (by have : (10 : Nat) ^ 20 = 100000000000000000000 := rfl; omega)
  rw [txt_foot h 25]
  unfold foot
  rw [List.getElem?_cons_succ, List.getElem?_append_right (by omega), e1, List.getElem?_append_right (by omega), e2]; rfl
theorem isTx_iff {s : List UInt8} {per : Int} {l : List Pay} (hp : gPer s = per) (hl : gPay s = l) : isTx s ↔ Rt per l ∧ txt per l = s := by
  unfold isTx; rw [hp, hl]
/-- What another text is read to is another file. -/
theorem other {s : List UInt8} {per : Int} {l : List Pay} (h : isTx s) (hne : s ≠ txt per l) : ¬ (gPer s = per ∧ gPay s = l) := by
  rintro ⟨rfl, rfl⟩; exact hne h.2.symm
end PBank
