/-
  The fixed answer of stage 8's statements is true.
-/
import Derived.Test.YtnolbjaeilgjhaaDoorTreeParse
import Derived.Deep.QuietTactic
import Derived.BigQuiet
namespace Go.Proofs.YtnolbjaeilgjhaaDoor
open Go.RowKit
open PTree (R Ex Tr Rl Row)

theorem tparse_ok {s : ByteArray} {rs : List Rl} {t : List PLex.Tok} (h : PTree.parse s.data.toList = some (.ok t rs)) (hs : s.size ≤ 4000) (w : World) :
    Calls Tryd.prog 11 #[.string s] w fun e w' => ∃ A ca B cb, e = .returned (.tuple #[.agg #[.slice A rs.length ca, .slice B (PTree.sizeOf rs) cb], .int .i64 0, .int .i64 0]) ∧ SlX rowR w' A rs.length (PTree.rowsOf 0 rs) ∧ SlX exR w' B (PTree.sizeOf rs) (PTree.exprsOf 0 rs) ∧ Below w.heap.size w w' := by
  refine (tparse_any s w hs).mono fun e w' k => ?_
  rw [h] at k
  obtain ⟨hb, A, ca, B, cb, he, _, _, h1, h2⟩ := k
  exact ⟨A, ca, B, cb, he, h1, h2, hb⟩
theorem tparse_bad {s : ByteArray} {k q : Nat} (h : PTree.parse s.data.toList = some (.bad k q)) (hs : s.size ≤ 4000) (w : World) :
    Calls Tryd.prog 11 #[.string s] w fun e w' => e = .returned (.tuple #[.agg #[.slice none 0 0, .slice none 0 0], .int .i64 (q : Nat), .int .i64 (k : Nat)]) ∧ Below w.heap.size w w' := by
  refine (tparse_any s w hs).mono fun e w' k => ?_
  rw [h] at k
  exact ⟨k.2.1, k.1⟩
theorem awake8_ok : PTree.parse [108, 101, 116, 32, 97, 32, 61, 32, 49, 32, 43, 32, 50, 32, 42, 32, 98, 59] = some (.ok [] [⟨[108, 101, 116], [97], .bin [43] (.whole 1) (.bin [42] (.whole 2) (.name [98]))⟩]) := by decide +kernel
theorem awake8_bad : PTree.parse [108, 101, 116, 32, 97, 32, 61, 32, 59] = some (.bad 2 8) := by decide +kernel
theorem slx_cell {α : Type} {R : Rec α} {w : World} {A : Option Addr} {n : Nat} {l : List α} (h : SlX R w A n l) {i : Nat} (hi : i < n) : ∃ b off, A = some ⟨b, off, none⟩ ∧ ∀ j v, (R.C (l[i]'(by rw [h.1]; exact hi)))[j]? = some v → w.cell? ⟨b, off + i * R.k + j, none⟩ = some v := by
  obtain ⟨b, off, e, hc⟩ := h.at hi
  exact ⟨b, off, e, fun j v hv => hc i (by rw [h.1]; exact hi) j v hv⟩

set_option maxHeartbeats 3200000 in
theorem awake_any (w : World) : Calls Tryd.prog 10 #[] w fun e w' => e = .returned (.bool true) ∧ Below w.heap.size w w' := by
  have M1 : Hid (∀ w, Calls Tryd.prog 11 #[.string { data := #[108, 101, 116, 32, 97, 32, 61, 32, 49, 32, 43, 32, 50, 32, 42, 32, 98, 59] }] w fun e w' => ∃ A ca B cb, e = .returned (.tuple #[.agg #[.slice A 1 ca, .slice B 5 cb], .int .i64 0, .int .i64 0]) ∧ SlX rowR w' A 1 [⟨[108, 101, 116], [97], 4⟩] ∧ SlX exR w' B 5 (PTree.exprsOf 0 [⟨[108, 101, 116], [97], .bin [43] (.whole 1) (.bin [42] (.whole 2) (.name [98]))⟩]) ∧ Below w.heap.size w w') := Lib.hid (tparse_ok (s := { data := #[108, 101, 116, 32, 97, 32, 61, 32, 49, 32, 43, 32, 50, 32, 42, 32, 98, 59] }) awake8_ok (by decide))
  have M2 : Hid (∀ w, Calls Tryd.prog 11 #[.string { data := #[108, 101, 116, 32, 97, 32, 61, 32, 59] }] w fun e w' => e = .returned (.tuple #[.agg #[.slice none 0 0, .slice none 0 0], .int .i64 8, .int .i64 2]) ∧ Below w.heap.size w w') := Lib.hid (tparse_bad (s := { data := #[108, 101, 116, 32, 97, 32, 61, 32, 59] }) awake8_bad (by decide))
  go_enter Tryd.func10, Tryd.ntmps10
  go_wp2_with fail
  refine (M1.out _).mono ?_
  rintro _ w1 ⟨A, ca, B, cb, rfl, s1, s2, b1⟩
  obtain ⟨bA, oA, rfl, hA⟩ := slx_cell s1 (i := 0) (by decide)
  obtain ⟨bB, oB, rfl, hB⟩ := slx_cell s2 (i := 4) (by decide)
  have a2 : w1.cell? ⟨bA, oA + 2, none⟩ = some (.int .i64 4) := hA 2 _ rfl
  have e0 : w1.cell? ⟨bB, oB + 24, none⟩ = some (.string { data := #[43] }) := hB 0 _ rfl
  have e4 : w1.cell? ⟨bB, oB + 28, none⟩ = some (.int .i64 3) := hB 4 _ rfl
  obtain ⟨w2, hw2, PB, b2⟩ : ∃ w2, w1.alloc (.cells #[.slice (some ⟨bA, oA, none⟩) 1 ca, .slice (some ⟨bB, oB, none⟩) 5 cb] 26) = w2 ∧ Box w2 w1.heap.size [.slice (some ⟨bA, oA, none⟩) 1 ca, .slice (some ⟨bB, oB, none⟩) 5 cb] ∧ Below w1.heap.size w1 w2 := ⟨_, rfl, Box.new _ _ [.slice (some ⟨bA, oA, none⟩) 1 ca, .slice (some ⟨bB, oB, none⟩) 5 cb], (Below.refl _ _).alloc (Nat.le_refl _) _⟩
  have HW2 := Lib.hid hw2
  have B2 := Lib.hid (below_step b1 b2)
  have X2 := Lib.hid ((⟨(b2.cell (World.block_lt_of_cell? w1 _ a2)).trans a2, (b2.cell (World.block_lt_of_cell? w1 _ e0)).trans e0, (b2.cell (World.block_lt_of_cell? w1 _ e4)).trans e4⟩ : _ ∧ _ ∧ _))
  have PB := Lib.hid PB
  clear M1 s1 s2 b1 b2 hA hB a2 e0 e4 hw2
  go_upto_region 2 with fail
  rw [HW2.out]
  go_wp2_with fail
  refine (M2.out _).mono ?_
  rintro _ w3 ⟨rfl, b3⟩
  have P3 := PB.out.on b3
  obtain ⟨x1, x2, x3⟩ := X2.out
  have a2 := (b3.cell (World.block_lt_of_cell? w2 _ x1)).trans x1
  have e0 := (b3.cell (World.block_lt_of_cell? w2 _ x2)).trans x2
  have e4 := (b3.cell (World.block_lt_of_cell? w2 _ x3)).trans x3
  have B3 := Lib.hid (below_step B2.out b3)
  obtain ⟨p0, p1⟩ := box2 P3
  have s1 := P3.1
  have s2 := World.block_lt_of_cell? w3 _ a2
  have s3 := World.block_lt_of_cell? w3 _ e0
  clear b3 x1 x2 x3 P3 PB X2 B2 HW2 M2
  go_wp2_with fail
  go_ret
  exact ⟨rfl, below_step B3.out ((Below.refl _ _).alloc (Nat.le_refl _) _)⟩
end Go.Proofs.YtnolbjaeilgjhaaDoor
