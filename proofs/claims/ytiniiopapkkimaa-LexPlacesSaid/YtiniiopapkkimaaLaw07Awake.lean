/-
  The fixed answer of stage 7's statements is true.
-/
import Derived.Test.YtiniiopapkkimaaLexAll
import Derived.Deep.QuietTactic
namespace Go.Proofs.Ytiniiopapkkimaa
open Go.RowKit

theorem lall_ok {s : ByteArray} {ts : List PLex.Tok} (h : PLex.all PLex.kindOf 0 s.data.toList = (none, ts)) (hs : s.size ≤ 99999) (w : World) :
    Calls Try.prog 9 #[.string s] w fun e w' => ∃ A cap, e = .returned (.tuple #[.slice A ts.length cap, .int .i64 0, .int .i64 0]) ∧ SlT w' A ts.length ts ∧ Below w.heap.size w w' := by
  refine (lall_any s w hs).mono fun e w' k => ?_
  rw [h] at k
  exact k.ok rfl
theorem lall_bad {s : ByteArray} {q : Nat} (h : (PLex.all PLex.kindOf 0 s.data.toList).1 = some q) (hs : s.size ≤ 99999) (w : World) :
    Calls Try.prog 9 #[.string s] w fun e w' => ∃ A cap, e = .returned (.tuple #[.slice A 0 cap, .int .i64 q, .int .i64 2]) ∧ Below w.heap.size w w' :=
  (lall_any s w hs).mono fun _ _ k => k.bad h
/-- What lex.All answers of a list of bytes. -/
theorem lall_list {l : List UInt8} {ts : List PLex.Tok} (h : PLex.all PLex.kindOf 0 l = (none, ts)) (hs : l.length ≤ 99999) (w : World) :
    Calls Try.prog 9 #[.string ⟨l.toArray⟩] w fun e w' => ∃ A cap, e = .returned (.tuple #[.slice A ts.length cap, .int .i64 0, .int .i64 0]) ∧ SlT w' A ts.length ts ∧ Below w.heap.size w w' :=
  lall_ok (s := ⟨l.toArray⟩) h (by show l.toArray.size ≤ 99999; rw [List.size_toArray]; exact hs) w
theorem lex_facts {s : ByteArray} {q : Option Nat} {ts : List PLex.Tok} (hr : PLex.all PLex.kindOf 0 s.data.toList = (q, ts)) :
    (∀ x ∈ ts, PLex.Lone PLex.kindOf x.kind x.text) ∧ (ts.map (fun x => x.text.length)).sum ≤ s.size ∧ ts.length ≤ (ts.map (fun x => x.text.length)).sum := by
  have hl := PLex.all_lone (K := PLex.kindOf) s.data.toList.length 0 s.data.toList (Nat.le_refl _)
  have hn := PLex.all_sum (K := PLex.kindOf) s.data.toList.length 0 s.data.toList (Nat.le_refl _)
  rw [hr] at hl hn
  exact ⟨hl, by simpa using hn, PLex.sum_len (fun x hx => (hl x hx).ne)⟩

def wordsA : List PLex.Tok := [⟨1, [101, 97, 114, 110], 0⟩, ⟨1, [97], 5⟩, ⟨5, [61], 7⟩, ⟨3, [49, 46, 53, 48], 9⟩, ⟨5, [59], 13⟩]
theorem awake_ok : PLex.all PLex.kindOf 0 [101, 97, 114, 110, 32, 97, 32, 61, 32, 49, 46, 53, 48, 59, 32, 35, 32, 120] = (none, wordsA) := by decide +kernel
theorem awake_bad : (PLex.all PLex.kindOf 0 [97, 32, 32, 63]).1 = some 3 := by decide +kernel

set_option maxHeartbeats 1600000 in
theorem awake_any (w : World) : Calls Try.prog 8 #[] w fun e w' => e = .returned (.bool true) ∧ Below w.heap.size w w' := by
  have M1 : Hid (∀ w, Calls Try.prog 9 #[.string { data := #[101, 97, 114, 110, 32, 97, 32, 61, 32, 49, 46, 53, 48, 59, 32, 35, 32, 120] }] w fun e w' => ∃ A cap, e = .returned (.tuple #[.slice A 5 cap, .int .i64 0, .int .i64 0]) ∧ SlT w' A 5 wordsA ∧ Below w.heap.size w w') := Lib.hid (lall_ok (s := { data := #[101, 97, 114, 110, 32, 97, 32, 61, 32, 49, 46, 53, 48, 59, 32, 35, 32, 120] }) awake_ok (by decide))
  have M2 : Hid (∀ w, Calls Try.prog 9 #[.string { data := #[97, 32, 32, 63] }] w fun e w' => ∃ A cap, e = .returned (.tuple #[.slice A 0 cap, .int .i64 3, .int .i64 2]) ∧ Below w.heap.size w w') := Lib.hid (lall_bad (s := { data := #[97, 32, 32, 63] }) awake_bad (by decide))
  go_enter Try.func8, Try.ntmps8
  go_wp2_with fail
  refine (M1.out _).mono ?_
  rintro _ w1 ⟨A, cap, rfl, s1, b1⟩
  have S1 := Lib.hid s1
  have B1 := Lib.hid b1
  clear s1 b1 M1
  go_wp2_with fail
  refine (M2.out _).mono ?_
  rintro _ w2 ⟨A2, cap2, rfl, b2⟩
  have s2 := S1.out.on b2
  have B2 := Lib.hid (below_step B1.out b2)
  clear b2 M2 S1 B1 w1
  obtain ⟨b, off, rfl, h⟩ := s2.at (i := 3) (by omega)
  obtain ⟨c0, c1, c2⟩ := h 3 (by decide)
  have hsz := World.block_lt_of_cell? w2 _ c0
  simp only [wordsA, List.getElem_cons_succ, List.getElem_cons_zero] at c0 c1 c2
  clear h s2
  go_wp2_with fail
  go_ret
  exact ⟨rfl, B2.out⟩
end Go.Proofs.Ytiniiopapkkimaa
