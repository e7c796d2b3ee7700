/-
  The fixed answer of stage 9's statements is true.
  What stage 9's statements have in common.
-/
import Derived.Test.YtfihdbnecepmfaaGreatDoorSX

set_option linter.unusedVariables false
namespace Go.Proofs.YtfihdbnecepmfaaGreatDoor
open Go.RowKit
open PTree (R Ex Tr Rl Row)
open PCheck (Xp)

def aw9Rs : List Rl := [⟨[108, 101, 116], [97], .bin [42] (.bin [43] (.whole 1) (.whole 2)) (.name [98])⟩]
theorem aw9_ok : PTree.parse [108, 101, 116, 32, 97, 61, 40, 49, 43, 50, 41, 42, 98, 59] = some (.ok [] aw9Rs) := by decide +kernel
theorem aw9_text : PTree.textB aw9Rs = [108, 101, 116, 32, 97, 32, 61, 32, 40, 49, 32, 43, 32, 50, 41, 32, 42, 32, 98, 59, 10] := by decide +kernel
theorem aw9_two : (if (0 : Int) ≤ 2 ∧ (2 : Int) < (PTree.sizeOf aw9Rs : Int) then some (PShow.tx (xpX aw9Rs) (2 : Int).toNat) else none) = some [49, 32, 43, 32, 50] := by decide +kernel
theorem aw9_none : textOf [] [([], [], 0)] = none := by decide +kernel
set_option maxHeartbeats 6400000 in
set_option maxRecDepth 100000 in
theorem aw9_any (w : World) (ht : Tab w) : Calls Tryz.prog 9 #[] w (BoolAns true w) := by
  obtain ⟨Q, hQ⟩ : ∃ Q, BoolAns true w = Q := ⟨_, rfl⟩
  rw [hQ]
  have FIN : Hid (∀ (w' : World), Below w.heap.size w w' → Q (.returned (.bool true)) w') := Lib.hid (fun w' a => by rw [← hQ]; exact ⟨rfl, a⟩)
  clear hQ
  have HT := Lib.hid ht
  have M1 := Lib.hid (tparse_ok (s := { data := #[108, 101, 116, 32, 97, 61, 40, 49, 43, 50, 41, 42, 98, 59] }) aw9_ok (by decide) w)
  clear ht
  go_enter Tryz.func9, Tryz.ntmps9
  go_wp2_with (go_at_call 10; refine M1.out.mono ?_)
  intro e1 w1 h1
  obtain ⟨A, ca, B, cb, rfl, s1, s2, b1⟩ := h1
  obtain ⟨w2, hw2, PB, b2⟩ : ∃ w2, w1.alloc (.cells #[.slice A 1 ca, .slice B 5 cb] 26) = w2 ∧ Box w2 w1.heap.size [.slice A 1 ca, .slice B 5 cb] ∧ Below w1.heap.size w1 w2 := ⟨_, rfl, Box.new _ _ [.slice A 1 ca, .slice B 5 cb], (Below.refl _ _).alloc (Nat.le_refl _) _⟩
  have l5 : PTree.sizeOf aw9Rs = 5 := rfl
  have l1 : aw9Rs.length = 1 := rfl
  rw [l5, l1]
  rw [l5] at s2
  rw [l1] at s1
  have b12 := below_step b1 b2
  have T2 := HT.out.on b12
  have S1 := Lib.hid (s1.on b2); have S2 := Lib.hid (s2.on b2)
  have X1 := Lib.hid (ptext (rc := ca) (c := cb) aw9_ok (by decide) S1.out S2.out T2)
  have HW2 := Lib.hid hw2; have B2 := Lib.hid b12; have HT2 := Lib.hid T2
  obtain ⟨p0, p1⟩ := px2 PB
  have hsp := PB.1
  have HPB := Lib.hid PB
  clear M1 s1 s2 b1 b2 b12 hw2 PB T2 l5 l1
  go_upto_region 2 with fail
  rw [HW2.out]
  go_wp2_with (go_at_call 12; refine X1.out.mono ?_)
  intro e3 w3 h3
  obtain ⟨rfl, b3⟩ := h3
  rw [aw9_text]
  obtain ⟨w4, hw4, b4⟩ : ∃ w4, w3.alloc (.cells #[.string { data := #[] }, .string { data := #[] }, .int .i64 0] 67) = w4 ∧ Below w3.heap.size w3 w4 := ⟨_, rfl, (Below.refl _ _).alloc (Nat.le_refl _) _⟩
  have R4 : SlX rlR w4 (some ⟨w3.heap.size, 0, none⟩) 1 [([], [], 0)] := by
    rw [← hw4]
    have h := Box.new w3 67 (rlR.cells [([], [], (0 : Int))])
    refine ⟨rfl, .inr ⟨w3.heap.size, 0, rfl, fun i hi j v e => ?_⟩⟩
    rw [Nat.zero_add]
    exact h.c _ (rlR.cells_get _ i hi j v e)
  have b34 := below_step b3 b4
  have T4 := HT2.out.on b34
  have xt := ktext_any (rc := 1) (c := 0) R4 (slr_nil xpR w4 none) T4 (by omega) (by omega) (fun x hx => by cases hx) (fun h => by cases h)
  rw [aw9_none] at xt
  have X2 := Lib.hid xt
  have PB4 := HPB.out.on b34
  have B4 := Lib.hid (below_step B2.out b34)
  have HT4 := Lib.hid T4; have HPB4 := Lib.hid PB4
  have S14 := Lib.hid (S1.out.on b34); have S24 := Lib.hid (S2.out.on b34)
  have HW4 := Lib.hid hw4
  clear p0 p1 hsp b3 b4 b34 T4 R4 xt PB4 S1 S2 HT2 HPB B2 X1 hw4
  go_wp2_with fail
  rw [HW4.out]
  refine X2.out.mono ?_
  intro e5 w5 h5
  obtain ⟨rfl, b5⟩ := h5
  have T5 := HT4.out.on b5
  have X3 := pexpr (rc := ca) (c := cb) aw9_ok (by decide) (S14.out.on b5) (S24.out.on b5) T5 2
  rw [aw9_two] at X3
  have HX3 := Lib.hid X3
  have PB5 := HPB4.out.on b5
  have B5 := Lib.hid (below_step B4.out b5)
  obtain ⟨p0, p1⟩ := px2 PB5
  have hsp := PB5.1
  clear b5 T5 X3 PB5 X2 S14 S24 HT4 HPB4 B4 HW4
  go_wp2_with (go_at_call 13; refine HX3.out.mono ?_)
  intro e6 w6 h6
  obtain ⟨rfl, b6⟩ := h6
  have B6 := Lib.hid (below_step B5.out b6)
  clear b6 HX3 B5
  go_wp2_with fail
  exact FIN.out _ B6.out
end Go.Proofs.YtfihdbnecepmfaaGreatDoor

set_option linter.unusedVariables false
namespace Go.Proofs.YtfihdbnecepmfaaGreatDoor
open Go.RowKit
open PTree (R Ex Tr Rl Row)
open PCheck (Xp)

theorem keep22 {w w' : World} {p0 p1 p2 p3 : Addr} {a b c d : Value} (hb : Below w.heap.size w w') (h : (w.cell? p0 = some a ∧ w.cell? p1 = some b) ∧ w.cell? p2 = some c ∧ w.cell? p3 = some d) :
    (w'.cell? p0 = some a ∧ w'.cell? p1 = some b) ∧ w'.cell? p2 = some c ∧ w'.cell? p3 = some d :=
  ⟨⟨(hb.cell (World.block_lt_of_cell? w _ h.1.1)).trans h.1.1, (hb.cell (World.block_lt_of_cell? w _ h.1.2)).trans h.1.2⟩, (hb.cell (World.block_lt_of_cell? w _ h.2.1)).trans h.2.1, (hb.cell (World.block_lt_of_cell? w _ h.2.2)).trans h.2.2⟩
theorem rowsOf_len0 : ∀ (o : Nat) (rs : List Rl), (PTree.rowsOf o rs).length = rs.length
  | _, [] => rfl
  | o, r :: rs => by simp [PTree.rowsOf, rowsOf_len0 (o + r.tree.size) rs]
/-- What a text is read to: rows, and their numbers. -/
def RdAns (rs : List Rl) (rl sz : Nat) (w : World) (e : Ending) (w' : World) : Prop := ∃ A ca B cb, e = .returned (.tuple #[.agg #[.slice A rl ca, .slice B sz cb], .int .i64 0, .int .i64 0]) ∧ SlX rowR w' A rl (PTree.rowsOf 0 rs) ∧ SlX exR w' B sz (PTree.exprsOf 0 rs) ∧ Below w.heap.size w w'
theorem tparse_rows {s : ByteArray} {rs : List Rl} {t : List PLex.Tok} (h : PTree.parse s.data.toList = some (.ok t rs)) (hs : s.size ≤ 4000) (w : World) {rl sz : Nat} (hl : rs.length = rl) (hz : PTree.sizeOf rs = sz) :
    Calls Tryz.prog 10 #[.string s] w (RdAns rs rl sz w) := by
  subst hl; subst hz
  exact tparse_ok h hs w
/-- The answer of a statement. -/
def Yes (w : World) (e : Ending) (w' : World) : Prop := e = .returned (.bool true) ∧ Below w.heap.size w w'
theorem aw9_yes (w : World) (ht : Tab w) : Calls Tryz.prog 9 #[] w (Yes w) := aw9_any w ht
end Go.Proofs.YtfihdbnecepmfaaGreatDoor
