/-
  One person, whose records come by rising months: which of them counts in a month. Plain facts; no program is named here.
-/
import Derived.Test.YtbnnmakmgleikaaMaFine
set_option linter.unusedVariables false
namespace PMa
open Go

theorem lead_all {α : Type} {f : α → Bool} : ∀ {l : List α}, (∀ x ∈ l, f x = true) → lead f l = l.length
  | [], _ => rfl
  | x :: l, h => by
    unfold lead
    rw [h x (List.mem_cons_self ..), if_pos rfl, lead_all (fun y hy => h y (List.mem_cons_of_mem _ hy))]
    rfl
theorem lead_off {α : Type} {f : α → Bool} {x : α} (hx : f x = false) : ∀ {l : List α}, lead f (l ++ [x]) = lead f l
  | [] => by simp [lead, hx]
  | y :: l => by
    rw [List.cons_append]
    unfold lead
    rw [lead_off hx]
def one (recs : List Rcd) : List Per := [⟨1, 24276, 0, recs, []⟩]
def rec_ (a b : Int) : Rcd := ⟨a, 0, b, 0, 0, 0, false⟩
/-- What holds after k records more. -/
structure Line (w : Int) (k : Nat) (a want : Int) (recs : List Rcd) : Prop where
  len : recs.length = k + 1
  all : ∀ r ∈ recs, r.frm ≤ a
  lo : 24276 ≤ a
  hi : a ≤ 24276 + 256 * (k : Int)
  fst : ∃ r l, recs = r :: l ∧ r.frm = 24276
  want : (recs.getD (upTo recs w - 1) default).base = want
theorem Line.start (w : Int) (hw : 24276 ≤ w) : Line w 0 24276 0 [rec_ 24276 0] := by
  refine ⟨rfl, fun r hr => ?_, by omega, by omega, ⟨_, _, rfl, rfl⟩, ?_⟩
  · obtain rfl : r = rec_ 24276 0 := by simpa using hr
    exact Int.le_refl _
  · have : upTo [rec_ 24276 0] w = 1 := lead_all (fun x hx => by
      obtain rfl : x = rec_ 24276 0 := by simpa using hx
      exact decide_eq_true (show (24276 : Int) ≤ w from hw))
    rw [this]; rfl
theorem Line.step {w : Int} {k : Nat} {a want : Int} {recs : List Rcd} (h : Line w k a want recs) {d : Int} (h1 : 1 ≤ d) (h2 : d ≤ 256) :
    Line w (k + 1) (a + d) (if a + d ≤ w then (k : Int) + 1 else want) (recs ++ [rec_ (a + d) ((k : Int) + 1)]) := by
  refine ⟨by rw [List.length_append, h.len]; rfl, fun r hr => ?_, by have := h.lo; omega, by have := h.hi; push_cast; omega, ?_, ?_⟩
  · rcases List.mem_append.1 hr with hr | hr
    · have := h.all r hr; omega
    · obtain rfl : r = rec_ (a + d) ((k : Int) + 1) := by simpa using hr
      exact Int.le_refl _
  · obtain ⟨r, l, rfl, hr⟩ := h.fst
    exact ⟨r, l ++ [_], rfl, hr⟩
  · split
    · rename_i hw
      have : upTo (recs ++ [rec_ (a + d) ((k : Int) + 1)]) w = recs.length + 1 := by
        have := lead_all (f := fun r : Rcd => decide (r.frm ≤ w)) (l := recs ++ [rec_ (a + d) ((k : Int) + 1)]) (fun x hx => by
          rcases List.mem_append.1 hx with hx | hx
          · have := h.all x hx; simp only [decide_eq_true_eq]; omega
          · obtain rfl : x = rec_ (a + d) ((k : Int) + 1) := by simpa using hx
            exact decide_eq_true (show a + d ≤ w from hw))
        rw [show upTo (recs ++ [rec_ (a + d) ((k : Int) + 1)]) w = lead (fun r : Rcd => decide (r.frm ≤ w)) (recs ++ [rec_ (a + d) ((k : Int) + 1)]) from rfl, this, List.length_append]; rfl
      rw [this, Nat.add_sub_cancel, List.getD_eq_getElem?_getD, List.getElem?_append_right (Nat.le_refl _), Nat.sub_self]
      rfl
    · rename_i hw
      have e : upTo (recs ++ [rec_ (a + d) ((k : Int) + 1)]) w = upTo recs w := lead_off (f := fun r : Rcd => decide (r.frm ≤ w)) (x := rec_ (a + d) ((k : Int) + 1)) (decide_eq_false (show ¬ a + d ≤ w from hw))
      have hl : upTo recs w ≤ recs.length := lead_le _ _
      have hn := h.len
      rw [e, List.getD_eq_getElem?_getD, List.getElem?_append_left (by omega), ← List.getD_eq_getElem?_getD]
      exact h.want
theorem one_there (recs : List Rcd) : there (one recs) 1 = true ∧ place (one recs) 1 = 0 := by
  constructor <;> simp [there, place, lead, one]
theorem Line.change {w : Int} {k : Nat} {a want : Int} {recs : List Rcd} (h : Line w k a want recs) (hk : k < 30) {d : Int} (h1 : 1 ≤ d) (h2 : d ≤ 256) :
    PMa.change (one recs) 1 (rec_ (a + d) ((k : Int) + 1)) = (one (recs ++ [rec_ (a + d) ((k : Int) + 1)]), 0) := by
  have h3 := h.lo; have h4 := h.hi
  obtain ⟨t1, t2⟩ := one_there recs
  have u1 : upTo recs (a + d - 1) = recs.length := lead_all (fun x hx => by have := h.all x hx; simp only [decide_eq_true_eq]; omega)
  have u2 : upTo recs (a + d) = recs.length := lead_all (fun x hx => by have := h.all x hx; simp only [decide_eq_true_eq]; omega)
  have i1 : isId 1 = true := by decide
  have i2 : isRcd (rec_ (a + d) ((k : Int) + 1)) = true := by
    show (isPer (a + d) && decide ((0 : Int) ≤ 0 ∧ (0 : Int) ≤ 999) && isIn ((k : Int) + 1) && isIn 0 && isIn 0 && isIn 0) = true
    rw [show isPer (a + d) = true from decide_eq_true ⟨by omega, by omega⟩, show isIn ((k : Int) + 1) = true from decide_eq_true ⟨by omega, by omega⟩]
    decide
  unfold PMa.change
  rw [i1, i2, t1, t2]
  have e : (one recs).getD 0 default = ⟨1, 24276, 0, recs, []⟩ := rfl
  rw [e]
  have hf : (rec_ (a + d) ((k : Int) + 1)).frm = a + d := rfl
  rw [hf, u1, u2]
  simp only [Bool.not_true, Bool.or_self, Bool.false_eq_true, if_false]
  rw [if_neg (by show ¬ a + d < 24276; omega)]
  simp [with_, one, List.take_length, List.drop_length]
theorem Line.at_ {w : Int} {k : Nat} {a want : Int} {recs : List Rcd} (h : Line w k a want recs) (hw : 24276 ≤ w) : ∃ q, PMa.at_ (one recs) 1 w = (q, 0) ∧ q.base = want := by
  obtain ⟨t1, t2⟩ := one_there recs
  refine ⟨recs.getD (upTo recs w - 1) default, ?_, h.want⟩
  unfold PMa.at_
  rw [t1, t2, if_pos rfl]
  show perAt ⟨1, 24276, 0, recs, []⟩ w = _
  unfold perAt
  rw [if_neg]
  rintro (h0 | h0 | ⟨h0, _⟩)
  · obtain ⟨r, l, rfl, hr⟩ := h.fst
    have hx : decide (r.frm ≤ w) = true := by rw [hr]; simpa using hw
    have : upTo (r :: l) w = lead (fun r : Rcd => decide (r.frm ≤ w)) l + 1 := by
      show lead _ (r :: l) = _
      rw [lead, if_pos hx]
    rw [this] at h0
    cases h0
  · exact absurd h0 (by show ¬ w < 24276; omega)
  · exact h0 rfl
theorem one_find (recs : List Rcd) : PMa.find (one recs) 1 = (⟨1, 24276, 0, recs, []⟩, 0) := by
  obtain ⟨t1, t2⟩ := one_there recs
  unfold PMa.find
  rw [t1, t2]; rfl
theorem one_hire : PMa.hire [] 1 (rec_ 24276 0) = (one [rec_ 24276 0], 0) := by decide
end PMa
