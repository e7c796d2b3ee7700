/-
  Words of a text by the reference's own lists of bytes: letters, letters and digits, runs, signs; the step at a place.
-/
import Derived.Test.YtnolbjaeilgjhaaDoorRef07Kind
namespace Go.Proofs.YtnolbjaeilgjhaaDoor
open Go.RowKit

def letL : ByteArray := { data := #[97, 98, 99, 100, 101, 102, 103, 104, 105, 106, 107, 108, 109, 110, 111, 112, 113, 114, 115, 116, 117, 118, 119, 120, 121, 122] }
def alL : ByteArray := { data := #[97, 98, 99, 100, 101, 102, 103, 104, 105, 106, 107, 108, 109, 110, 111, 112, 113, 114, 115, 116, 117, 118, 119, 120, 121, 122, 48, 49, 50, 51, 52, 53, 54, 55, 56, 57] }
def runL : ByteArray := { data := #[48, 49, 50, 51, 52, 53, 54, 55, 56, 57, 46, 37] }
def sgnL : ByteArray := { data := #[61, 60, 62, 43, 45, 42, 40, 41, 44, 59] }
theorem each_byte {p q : UInt8 → Bool} (h : ∀ n : Fin 256, p (UInt8.ofNat n.val) = q (UInt8.ofNat n.val)) (c : UInt8) : p c = q c := by
  have := h ⟨c.toNat, c.toNat_lt⟩
  simpa using this
theorem let_in (c : UInt8) : inB c letL.data.toList = PLex.isLet c := each_byte (p := fun c => inB c letL.data.toList) (by decide +kernel) c
theorem al_in (c : UInt8) : inB c alL.data.toList = PLex.isAl c := each_byte (p := fun c => inB c alL.data.toList) (by decide +kernel) c
theorem run_in (c : UInt8) : inB c runL.data.toList = PLex.isRun c := each_byte (p := fun c => inB c runL.data.toList) (by decide +kernel) c
theorem sgn_in (c : UInt8) : inB c sgnL.data.toList = PLex.isSgn c := each_byte (p := fun c => inB c sgnL.data.toList) (by decide +kernel) c
theorem endOf_by {l : List UInt8} {p : UInt8 → Bool} (h : ∀ c, inB c l = p c) {s : ByteArray} {j : Nat} (hj : j < s.size) (hp : p s[j] = true) :
    endOf l s j = j + (1 + ((s.data.toList.drop (j + 1)).takeWhile p).length) := by
  have e : (fun c => inB c l) = p := by funext c; exact h c
  unfold endOf
  rw [e, drop_at hj, List.takeWhile_cons, if_pos hp, List.length_cons]; omega
theorem let_al {c : UInt8} (h : PLex.isLet c = true) : PLex.isAl c = true := by unfold PLex.isAl; rw [h]; rfl
theorem dig_run {c : UInt8} (h : PLex.isDig c = true) : PLex.isRun c = true := by unfold PLex.isRun; rw [h]; rfl
/-- The step at a place. -/
def stepAt (s : ByteArray) (j : Nat) : Nat × Nat := PLex.step PLex.kindOf (s.data.toList.drop j)
theorem stepAt_blank {s : ByteArray} {j : Nat} (h : j < s.size) (hc : s[j] = 32 ∨ s[j] = 10) : stepAt s j = (6, 1) := by
  unfold stepAt; rw [drop_at h]; simp only [PLex.step]; rw [if_pos hc]
theorem stepAt_comment {s : ByteArray} {j : Nat} (h : j < s.size) (hc : s[j] = 35) : stepAt s j = (6, 1 + ((s.data.toList.drop (j + 1)).takeWhile (fun d => d != 10)).length) := by
  unfold stepAt; rw [drop_at h]; simp only [PLex.step]; rw [if_neg (by rw [hc]; decide), if_pos hc]
theorem stepAt_word {s : ByteArray} {j : Nat} (h : j < s.size) (h1 : ¬ (s[j] = 32 ∨ s[j] = 10)) (h2 : s[j] ≠ 35) (hl : PLex.isLet s[j] = true) : stepAt s j = (if endOf alL.data.toList s j - j < 13 then 1 else 0, endOf alL.data.toList s j - j) := by
  rw [endOf_by al_in h (let_al hl), Nat.add_sub_cancel_left]
  unfold stepAt; rw [drop_at h]; simp only [PLex.step]; rw [if_neg h1, if_neg h2, if_pos hl]
theorem stepAt_run {s : ByteArray} {j : Nat} (h : j < s.size) (h1 : ¬ (s[j] = 32 ∨ s[j] = 10)) (h2 : s[j] ≠ 35) (hl : PLex.isLet s[j] = false) (hd : PLex.isDig s[j] = true) :
    stepAt s j = (PLex.kindOf ((s.data.toList.drop j).take (endOf runL.data.toList s j - j)), endOf runL.data.toList s j - j) := by
  rw [endOf_by run_in h (dig_run hd), Nat.add_sub_cancel_left]
  unfold stepAt; rw [drop_at h]; simp only [PLex.step]; rw [if_neg h1, if_neg h2, if_neg (by rw [hl]; exact Bool.false_ne_true), if_pos hd]
  rw [Nat.add_comm 1, List.take_succ_cons, PLex.take_takeWhile]
theorem stepAt_sign {s : ByteArray} {j : Nat} (h : j < s.size) (h1 : ¬ (s[j] = 32 ∨ s[j] = 10)) (h2 : s[j] ≠ 35) (hl : PLex.isLet s[j] = false) (hd : PLex.isDig s[j] = false) (hg : PLex.isSgn s[j] = true) :
    stepAt s j = (5, if PLex.two s[j] (s.data.toList.drop (j + 1)) = true then 2 else 1) := by
  unfold stepAt; rw [drop_at h]; simp only [PLex.step]; rw [if_neg h1, if_neg h2, if_neg (by rw [hl]; exact Bool.false_ne_true), if_neg (by rw [hd]; exact Bool.false_ne_true), if_pos hg]
theorem stepAt_none {s : ByteArray} {j : Nat} (h : j < s.size) (h1 : ¬ (s[j] = 32 ∨ s[j] = 10)) (h2 : s[j] ≠ 35) (hl : PLex.isLet s[j] = false) (hd : PLex.isDig s[j] = false) (hg : PLex.isSgn s[j] = false) : stepAt s j = (0, 1) := by
  unfold stepAt; rw [drop_at h]; simp only [PLex.step]; rw [if_neg h1, if_neg h2, if_neg (by rw [hl]; exact Bool.false_ne_true), if_neg (by rw [hd]; exact Bool.false_ne_true), if_neg (by rw [hg]; exact Bool.false_ne_true)]
/-- All words, from a place on, behind those that are told. -/
def told (s : ByteArray) (j : Nat) (ts : List PLex.Tok) : Prop := PLex.all PLex.kindOf 0 s.data.toList = ((PLex.all PLex.kindOf j (s.data.toList.drop j)).1, ts ++ (PLex.all PLex.kindOf j (s.data.toList.drop j)).2)
theorem told_first (s : ByteArray) : told s 0 [] := rfl
theorem told_skip {s : ByteArray} {j n : Nat} {ts : List PLex.Tok} (h : told s j ts) (hj : j < s.size) (hs : stepAt s j = (6, n)) : told s (j + n) ts := by
  unfold told at h ⊢
  unfold stepAt at hs
  rw [drop_at hj] at h hs
  rw [h, PLex.all_cons, hs]
  simp only [if_neg (show ¬ (6 = 0) by omega), if_pos trivial]
  rw [← drop_at hj, List.drop_drop]
theorem told_word {s : ByteArray} {j k n : Nat} {ts : List PLex.Tok} (h : told s j ts) (hj : j < s.size) (hs : stepAt s j = (k, n)) (h0 : k ≠ 0) (h6 : k ≠ 6) : told s (j + n) (ts ++ [⟨k, (s.data.toList.drop j).take n, j⟩]) := by
  unfold told at h ⊢
  unfold stepAt at hs
  rw [drop_at hj] at h hs
  rw [h, PLex.all_cons, hs]
  simp only [if_neg h0, if_neg h6]
  rw [← drop_at hj, List.drop_drop, List.append_assoc]; rfl
theorem told_bad {s : ByteArray} {j n : Nat} {ts : List PLex.Tok} (h : told s j ts) (hj : j < s.size) (hs : stepAt s j = (0, n)) : (PLex.all PLex.kindOf 0 s.data.toList).1 = some j := by
  unfold told at h
  unfold stepAt at hs
  rw [drop_at hj] at h hs
  rw [h, PLex.all_cons, hs]; rfl
theorem told_last {s : ByteArray} {ts : List PLex.Tok} (h : told s s.size ts) : PLex.all PLex.kindOf 0 s.data.toList = (none, ts) := by
  unfold told at h
  rw [List.drop_of_length_le (by simp)] at h
  rw [h]; simp [PLex.all_nil]
end Go.Proofs.YtnolbjaeilgjhaaDoor
