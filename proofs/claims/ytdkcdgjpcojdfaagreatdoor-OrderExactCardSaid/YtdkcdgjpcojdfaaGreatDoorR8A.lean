/-
  What the reference of layer 8 answers: the text of the next token, an error at it, whether a text is one of these.
  What the reference of layer 8 answers: a word or a sign that must stand there; an expression that is put behind the others.
  What the reference of layer 8 answers: an expression that is put behind the others.
  What the reference of layer 8 answers: whether a text is one of these; words that are no names; the signs of a level.
  What the reference of layer 8 answers of a state that has an error: the state, and 0.
  A state of the reference of layer 8, and what has been read so far: its calls, one behind the other.
-/
import Derived.Test.YtdkcdgjpcojdfaaGreatDoorPM
import Derived.Test.YtdkcdgjpcojdfaaGreatDoorTK
import Derived.Deep.QuietTactic
import Derived.BigQuiet
import Derived.Handy
import Derived.Test.YtdkcdgjpcojdfaaGreatDoorBK
import Derived.Test.YtdkcdgjpcojdfaaGreatDoorTreeRowsG
import Derived.Deep.DeepCutAuto
import Derived.Test.YtdkcdgjpcojdfaaGreatDoorKT

namespace Go.Proofs.YtdkcdgjpcojdfaaGreatDoor
open Go.RowKit

def stV (L R X : Value) (en i er pl : Int) : Value := .agg #[L, .int .i64 en, .int .i64 i, R, X, .int .i64 er, .int .i64 pl]
theorem textOf_drop {ls : List PLex.Tok} {i : Nat} (h : i < ls.length) : PTree.textOf (ls.drop i) = if ls[i].kind = 1 ∨ ls[i].kind = 5 then ls[i].text else [] := by
  rw [List.drop_eq_getElem_cons h]; rfl
set_option maxHeartbeats 1600000 in
theorem r8text_any {w : World} {A B C : Option Addr} {cap rn rc xn xc : Nat} {en er pl : Int} {ls : List PLex.Tok} {i : Nat} (hA : SlT w A ls.length ls) (hi : i ≤ ls.length) :
    Calls Tryz.prog 22 #[stV (.slice A ls.length cap) (.slice B rn rc) (.slice C xn xc) en i er pl] w fun e w' => e = .returned (.string ⟨(PTree.textOf (ls.drop i)).toArray⟩) ∧ Below w.heap.size w w' := by
  unfold stV
  by_cases hlt : i < ls.length
  · obtain ⟨b, off, rfl, hc⟩ := hA.at hlt
    obtain ⟨c0, c1, c2⟩ := hc i hlt
    have hsz := World.block_lt_of_cell? w _ c0
    rw [textOf_drop hlt]
    obtain ⟨x, hx⟩ : ∃ x, ls[i] = x := ⟨_, rfl⟩
    rw [hx] at c0 c1 c2 ⊢
    clear hc hx hA
    by_cases h1 : x.kind = 1
    · have e1 : ((x.kind : Int) == 1) = true := by rw [h1]; rfl
      have e5 : ((x.kind : Int) == 5) = false := by rw [h1]; rfl
      rw [if_pos (.inl h1)]
      clear h1
      go_enter Tryz.func22, Tryz.ntmps22
      go_wp2_with fail
      go_ret
      exact ⟨rfl, (Below.refl _ _).alloc (Nat.le_refl _) _⟩
    · have e1 : ((x.kind : Int) == 1) = false := by rw [beq_eq_false_iff_ne]; omega
      by_cases h5 : x.kind = 5
      · have e5 : ((x.kind : Int) == 5) = true := by rw [h5]; rfl
        rw [if_pos (.inr h5)]
        clear h1 h5
        go_enter Tryz.func22, Tryz.ntmps22
        go_wp2_with fail
        go_ret
        exact ⟨rfl, (Below.refl _ _).alloc (Nat.le_refl _) _⟩
      · have e5 : ((x.kind : Int) == 5) = false := by rw [beq_eq_false_iff_ne]; omega
        rw [if_neg (by omega)]
        clear h1 h5
        go_enter Tryz.func22, Tryz.ntmps22
        go_wp2_with fail
        go_ret
        exact ⟨rfl, (Below.refl _ _).alloc (Nat.le_refl _) _⟩
  · rw [List.drop_of_length_le (by omega)]
    go_enter Tryz.func22, Tryz.ntmps22
    go_wp2_with fail
    go_ret
    exact ⟨rfl, (Below.refl _ _).alloc (Nat.le_refl _) _⟩
theorem placeOf_drop {ls : List PLex.Tok} {en i : Nat} (h : i < ls.length) : PTree.placeOf en (ls.drop i) = ls[i].at_ := by
  rw [List.drop_eq_getElem_cons h]; rfl
set_option maxHeartbeats 1600000 in
theorem r8wrong_old {w : World} {A B C : Option Addr} {n cap rn rc xn xc : Nat} {en er pl i e : Int} (h : er ≠ 0) :
    Calls Tryz.prog 24 #[stV (.slice A n cap) (.slice B rn rc) (.slice C xn xc) en i er pl, .int .i64 e] w fun ex w' => ex = .returned (stV (.slice A n cap) (.slice B rn rc) (.slice C xn xc) en i er pl) ∧ Below w.heap.size w w' := by
  unfold stV
  have e0 : (er == 0) = false := by rw [beq_eq_false_iff_ne]; exact h
  clear h
  go_enter Tryz.func24, Tryz.ntmps24
  go_wp2_with fail
  go_returns
  exact ⟨rfl, ((Below.refl _ _).alloc (Nat.le_refl _) _).alloc (by simp) _⟩
set_option maxHeartbeats 1600000 in
theorem r8wrong_new {w : World} {A B C : Option Addr} {cap rn rc xn xc : Nat} {en : Nat} {pl e : Int} {ls : List PLex.Tok} {i : Nat} (hA : SlT w A ls.length ls) (hi : i ≤ ls.length) :
    Calls Tryz.prog 24 #[stV (.slice A ls.length cap) (.slice B rn rc) (.slice C xn xc) en i 0 pl, .int .i64 e] w fun ex w' => ex = .returned (stV (.slice A ls.length cap) (.slice B rn rc) (.slice C xn xc) en i e (PTree.placeOf en (ls.drop i) : Nat)) ∧ Below w.heap.size w w' := by
  unfold stV
  by_cases hlt : i < ls.length
  · obtain ⟨b, off, rfl, hc⟩ := hA.at hlt
    obtain ⟨c0, c1, c2⟩ := hc i hlt
    have hsz := World.block_lt_of_cell? w _ c0
    rw [placeOf_drop hlt]
    obtain ⟨x, hx⟩ : ∃ x, ls[i] = x := ⟨_, rfl⟩
    rw [hx] at c0 c1 c2 ⊢
    clear hc hx hA
    go_enter Tryz.func24, Tryz.ntmps24
    go_wp2_with fail
    go_returns
    exact ⟨rfl, ((Below.refl _ _).alloc (Nat.le_refl _) _).alloc (by simp) _⟩
  · rw [List.drop_of_length_le (by omega)]
    go_enter Tryz.func24, Tryz.ntmps24
    go_wp2_with fail
    go_returns
    exact ⟨rfl, ((Below.refl _ _).alloc (Nat.le_refl _) _).alloc (by simp) _⟩
end Go.Proofs.YtdkcdgjpcojdfaaGreatDoor

namespace Go.Proofs.YtdkcdgjpcojdfaaGreatDoor
open Go.RowKit

set_option maxHeartbeats 1600000 in
theorem r8must_old {w : World} {A B C : Option Addr} {n cap rn rc xn xc : Nat} {en er pl i : Int} {u : ByteArray} (h : er ≠ 0) :
    Calls Tryz.prog 27 #[stV (.slice A n cap) (.slice B rn rc) (.slice C xn xc) en i er pl, .string u] w fun ex w' => ex = .returned (stV (.slice A n cap) (.slice B rn rc) (.slice C xn xc) en i er pl) ∧ Below w.heap.size w w' := by
  unfold stV
  have e0 : (er != 0) = true := by rw [bne_iff_ne]; exact h
  clear h
  go_enter Tryz.func27, Tryz.ntmps27
  go_wp2_with fail
  go_returns
  exact ⟨rfl, ((Below.refl _ _).alloc (Nat.le_refl _) _).alloc (by simp) _⟩
theorem toList_beq {u v : ByteArray} (h : u ≠ v) : (u.toList == v.toList) = false := by
  rw [beq_eq_false_iff_ne]; intro k; rw [ByteArray.toList_eq, ByteArray.toList_eq] at k
  exact h (by cases u; cases v; simpa using k)
set_option maxHeartbeats 1600000 in
theorem r8must_bad {w : World} {A B C : Option Addr} {cap rn rc xn xc en : Nat} {pl : Int} {ls : List PLex.Tok} {i : Nat} {u : ByteArray} (hA : SlT w A ls.length ls) (hi : i ≤ ls.length) (hu : PTree.textOf (ls.drop i) ≠ u.data.toList) :
    Calls Tryz.prog 27 #[stV (.slice A ls.length cap) (.slice B rn rc) (.slice C xn xc) en i 0 pl, .string u] w fun ex w' => ex = .returned (stV (.slice A ls.length cap) (.slice B rn rc) (.slice C xn xc) en i 2 (PTree.placeOf en (ls.drop i) : Nat)) ∧ Below w.heap.size w w' := by
  have H1 := Lib.hid (fun (w : World) (h : SlT w A ls.length ls) => r8text_any (cap := cap) (B := B) (C := C) (rn := rn) (rc := rc) (xn := xn) (xc := xc) (en := en) (er := 0) (pl := pl) h hi)
  have H2 := Lib.hid (fun (w : World) (h : SlT w A ls.length ls) => r8wrong_new (cap := cap) (B := B) (C := C) (rn := rn) (rc := rc) (xn := xn) (xc := xc) (en := en) (e := 2) (pl := pl) h hi)
  have HA := Lib.hid hA
  obtain ⟨P, hP⟩ : ∃ P, PTree.placeOf en (ls.drop i) = P := ⟨_, rfl⟩
  rw [hP] at H2 ⊢
  obtain ⟨t, ht⟩ : ∃ t, PTree.textOf (ls.drop i) = t := ⟨_, rfl⟩
  rw [ht] at H1 hu
  have hne := toList_beq (u := ⟨t.toArray⟩) (v := u) (fun e => hu (by rw [← e]))
  obtain ⟨tb, htb⟩ : ∃ b, ({ data := t.toArray } : ByteArray) = b := ⟨_, rfl⟩
  rw [htb] at H1 hne
  clear hA hP ht hu htb
  unfold stV at H1 H2 ⊢
  go_enter Tryz.func27, Tryz.ntmps27
  go_wp2_with fail
  obtain ⟨w1, hw1⟩ : ∃ w1, w1 = (w.alloc (.cells #[.slice A ls.length cap, .int .i64 en, .int .i64 i, .slice B rn rc, .slice C xn xc, .int .i64 0, .int .i64 pl] 68)).alloc (.cells #[.slice none 0 0, .int .i64 0, .int .i64 0, .slice none 0 0, .slice none 0 0, .int .i64 0, .int .i64 0] 68) := ⟨_, rfl⟩
  rw [← hw1]
  obtain ⟨L, hL⟩ : ∃ L, L = w.heap.size := ⟨_, rfl⟩
  have XB : Hid (Box w1 L [.slice A ls.length cap, .int .i64 en, .int .i64 i, .slice B rn rc, .slice C xn xc, .int .i64 0, .int .i64 pl]) := Lib.hid (by rw [hw1, hL]; exact (Box.new _ _ _).alloc _)
  have RB : Hid (Box w1 (L + 1) [.slice none 0 0, .int .i64 0, .int .i64 0, .slice none 0 0, .slice none 0 0, .int .i64 0, .int .i64 0]) := Lib.hid (by
    rw [hw1, hL]
    have := Box.new (w.alloc (.cells #[.slice A ls.length cap, .int .i64 en, .int .i64 i, .slice B rn rc, .slice C xn xc, .int .i64 0, .int .i64 pl] 68)) 68 [.slice none 0 0, .int .i64 0, .int .i64 0, .slice none 0 0, .slice none 0 0, .int .i64 0, .int .i64 0]
    simpa using this)
  have b1 : Below w.heap.size w w1 := by rw [hw1]; exact ((Below.refl _ _).alloc (Nat.le_refl _) _).alloc (by simp) _
  have B1 := Lib.hid b1
  have HA1 := Lib.hid (HA.out.on b1)
  rw [← hL] at ⊢
  have HLw := Lib.hid hL
  clear hw1 hL b1 HA
  refine (H1.out _ HA1.out).mono ?_
  rintro _ w2 ⟨rfl, b⟩
  have XB2 := Lib.hid (XB.out.on b)
  have RB2 := Lib.hid (RB.out.on b)
  have HA2 := Lib.hid (HA1.out.on b)
  have B2 := Lib.hid (below_step B1.out b)
  clear b XB RB HA1 B1 H1 w1
  obtain ⟨c0, c1, c2, c3, c4, c5, c6⟩ := box7 XB2.out
  go_wp2_with fail
  refine (H2.out _ HA2.out).mono ?_
  rintro _ w3 ⟨rfl, b⟩
  have RB3 := Lib.hid (RB2.out.on b)
  have B3 := Lib.hid (below_step B2.out b)
  clear b XB2 RB2 HA2 B2 H2 c0 c1 c2 c3 c4 c5 c6 w2
  obtain ⟨r0, r1, r2, r3, r4, r5, r6⟩ := box7 RB3.out
  obtain ⟨f0, f1, f2, f3, f4, f5, f6⟩ := box7f RB3.out
  obtain ⟨k0, k1, k2, k3, k4, k5, k6⟩ := box7 (RB3.out.all7 (.slice A ls.length cap) (.int .i64 en) (.int .i64 i) (.slice B rn rc) (.slice C xn xc) (.int .i64 2) (.int .i64 P))
  have BE : Hid (Below w.heap.size w (((((((w3.setCell ⟨L + 1, 0, none⟩ (.slice A ls.length cap)).setCell ⟨L + 1, 1, none⟩ (.int .i64 en)).setCell ⟨L + 1, 2, none⟩ (.int .i64 i)).setCell ⟨L + 1, 3, none⟩ (.slice B rn rc)).setCell ⟨L + 1, 4, none⟩ (.slice C xn xc)).setCell ⟨L + 1, 5, none⟩ (.int .i64 2)).setCell ⟨L + 1, 6, none⟩ (.int .i64 P))) := Lib.hid (below_all7 (by have := HLw.out; omega) B3.out _ _ _ _ _ _ _)
  clear RB3 B3
  go_wp2_with fail
  (try simp only [Exit.inBlock, Exit.then])
  refine bodyPost_ret (by simp [results, Tryz.results27, go_sem, k0, k1, k2, k3, k4, k5, k6]; try rfl) rfl ?_
  exact ⟨rfl, BE.out⟩
set_option maxHeartbeats 1600000 in
theorem r8must_ok {w : World} {A B C : Option Addr} {cap rn rc xn xc en : Nat} {pl : Int} {ls : List PLex.Tok} {i : Nat} {u : ByteArray} (hA : SlT w A ls.length ls) (hi : i < ls.length) (hn : ls.length ≤ 100000) (hu : PTree.textOf (ls.drop i) = u.data.toList) :
    Calls Tryz.prog 27 #[stV (.slice A ls.length cap) (.slice B rn rc) (.slice C xn xc) en i 0 pl, .string u] w fun ex w' => ex = .returned (stV (.slice A ls.length cap) (.slice B rn rc) (.slice C xn xc) en ((i + 1 : Nat) : Int) 0 pl) ∧ Below w.heap.size w w' := by
  have H1 := Lib.hid (fun (w : World) (h : SlT w A ls.length ls) => r8text_any (cap := cap) (B := B) (C := C) (rn := rn) (rc := rc) (xn := xn) (xc := xc) (en := en) (er := 0) (pl := pl) h (Nat.le_of_lt hi))
  have HA := Lib.hid hA
  have htb : ({ data := (PTree.textOf (ls.drop i)).toArray } : ByteArray) = u := by rw [hu]
  rw [htb] at H1
  clear hA hu htb
  unfold stV at H1 ⊢
  go_enter Tryz.func27, Tryz.ntmps27
  go_wp2_with fail
  obtain ⟨w1, hw1⟩ : ∃ w1, w1 = (w.alloc (.cells #[.slice A ls.length cap, .int .i64 en, .int .i64 i, .slice B rn rc, .slice C xn xc, .int .i64 0, .int .i64 pl] 68)).alloc (.cells #[.slice none 0 0, .int .i64 0, .int .i64 0, .slice none 0 0, .slice none 0 0, .int .i64 0, .int .i64 0] 68) := ⟨_, rfl⟩
  rw [← hw1]
  obtain ⟨L, hL⟩ : ∃ L, L = w.heap.size := ⟨_, rfl⟩
  have XB : Hid (Box w1 L [.slice A ls.length cap, .int .i64 en, .int .i64 i, .slice B rn rc, .slice C xn xc, .int .i64 0, .int .i64 pl]) := Lib.hid (by rw [hw1, hL]; exact (Box.new _ _ _).alloc _)
  have RB : Hid (Box w1 (L + 1) [.slice none 0 0, .int .i64 0, .int .i64 0, .slice none 0 0, .slice none 0 0, .int .i64 0, .int .i64 0]) := Lib.hid (by
    rw [hw1, hL]
    have := Box.new (w.alloc (.cells #[.slice A ls.length cap, .int .i64 en, .int .i64 i, .slice B rn rc, .slice C xn xc, .int .i64 0, .int .i64 pl] 68)) 68 [.slice none 0 0, .int .i64 0, .int .i64 0, .slice none 0 0, .slice none 0 0, .int .i64 0, .int .i64 0]
    simpa using this)
  have b1 : Below w.heap.size w w1 := by rw [hw1]; exact ((Below.refl _ _).alloc (Nat.le_refl _) _).alloc (by simp) _
  have B1 := Lib.hid b1
  have HA1 := Lib.hid (HA.out.on b1)
  rw [← hL] at ⊢
  have HLw := Lib.hid hL
  clear hw1 hL b1 HA
  refine (H1.out _ HA1.out).mono ?_
  rintro _ w2 ⟨rfl, b⟩
  have XB2 := Lib.hid (XB.out.on b)
  have RB2 := Lib.hid (RB.out.on b)
  have HA2 := Lib.hid (HA1.out.on b)
  have B2 := Lib.hid (below_step B1.out b)
  clear b XB RB HA1 B1 H1 w1
  obtain ⟨c0, c1, c2, c3, c4, c5, c6⟩ := box7 XB2.out
  obtain ⟨g0, g1, g2, g3, g4, g5, g6⟩ := box7f XB2.out
  obtain ⟨d0, d1, d2, d3, d4, d5, d6⟩ := box7 (XB2.out.set 2 (by simp) (.int .i64 ((i : Int) + 1)))
  have RB3 := Lib.hid (RB2.out.far (p := ⟨L, 2, none⟩) (by simp) (.int .i64 ((i : Int) + 1)))
  obtain ⟨r0, r1, r2, r3, r4, r5, r6⟩ := box7 RB3.out
  obtain ⟨f0, f1, f2, f3, f4, f5, f6⟩ := box7f RB3.out
  obtain ⟨k0, k1, k2, k3, k4, k5, k6⟩ := box7 (RB3.out.all7 (.slice A ls.length cap) (.int .i64 en) (.int .i64 ((i : Int) + 1)) (.slice B rn rc) (.slice C xn xc) (.int .i64 0) (.int .i64 pl))
  have BE : Hid (Below w.heap.size w ((((((((w2.setCell ⟨L, 2, none⟩ (.int .i64 ((i : Int) + 1))).setCell ⟨L + 1, 0, none⟩ (.slice A ls.length cap)).setCell ⟨L + 1, 1, none⟩ (.int .i64 en)).setCell ⟨L + 1, 2, none⟩ (.int .i64 ((i : Int) + 1))).setCell ⟨L + 1, 3, none⟩ (.slice B rn rc)).setCell ⟨L + 1, 4, none⟩ (.slice C xn xc)).setCell ⟨L + 1, 5, none⟩ (.int .i64 0)).setCell ⟨L + 1, 6, none⟩ (.int .i64 pl))) := Lib.hid (below_all7 (by have := HLw.out; omega) (B2.out.setCell (by have := HLw.out; simp; omega) _) _ _ _ _ _ _ _)
  clear XB2 RB2 RB3 B2 HA2
  go_wp2_with fail
  (try simp only [Exit.inBlock, Exit.then])
  refine bodyPost_ret (by simp [results, Tryz.results27, go_sem, k0, k1, k2, k3, k4, k5, k6]; try rfl) rfl ?_
  exact ⟨rfl, BE.out⟩
end Go.Proofs.YtdkcdgjpcojdfaaGreatDoor

namespace Go.Proofs.YtdkcdgjpcojdfaaGreatDoor
open Go.RowKit

theorem ref_exTy : RecTy exR 104 24 64 where
  info := ⟨.agg #[.string ⟨#[]⟩, .string ⟨#[]⟩, .int .i64 0, .int .i64 0, .int .i64 0, .int .i64 0], by kernel_rfl, by rfl⟩
  under := by kernel_rfl
  few := by decide
theorem ref_rowTy : RecTy rowR 78 23 40 where
  info := ⟨.agg #[.string ⟨#[]⟩, .string ⟨#[]⟩, .int .i64 0], by kernel_rfl, by rfl⟩
  under := by kernel_rfl
  few := by decide

def SlE (N : Nat) (w : World) (C : Option Addr) (n : Nat) (l : List PTree.Ex) : Prop := SlX exR w C n l ∧ N < w.heap.size ∧ ∀ a, C = some a → a.block ≠ N
theorem SlE.on {N n : Nat} {w w' : World} {C : Option Addr} {l : List PTree.Ex} (h : SlE N w C n l) (hb : Below w.heap.size w w') : SlE N w' C n l := ⟨h.1.on hb, Nat.lt_of_lt_of_le h.2.1 hb.size, h.2.2⟩
theorem SlE.at {N n : Nat} {w : World} {C : Option Addr} {l : List PTree.Ex} (h : SlE N w C n l) {i : Nat} (hi : i < n) :
    ∃ b off, C = some ⟨b, off, none⟩ ∧ ∀ i (h : i < l.length) j v, (exR.C l[i])[j]? = some v → w.cell? ⟨b, off + i * exR.k + j, none⟩ = some v := h.1.at hi
theorem SlE.cellsE {N n : Nat} {w w' : World} {C : Option Addr} {l : List PTree.Ex} (h : SlE N w C n l) (hs : w'.heap.size = w.heap.size) (hc : ∀ b, (∃ off, C = some ⟨b, off, none⟩) → n ≠ 0 → ∀ o, w'.cell? ⟨b, o, none⟩ = w.cell? ⟨b, o, none⟩) : SlE N w' C n l := ⟨h.1.cells hc, by rw [hs]; exact h.2.1, h.2.2⟩
set_option maxHeartbeats 1600000 in
theorem r8put_raw {w : World} {A B C : Option Addr} {n cap rn rc xc : Nat} {en er pl i : Int} {xs : List PTree.Ex} {y : PTree.Ex} (hX : SlX exR w C xs.length xs) (hc : C = none → xc = 0) (hn : xs.length + 1 ≤ 100000) :
    Calls Tryz.prog 44 #[stV (.slice A n cap) (.slice B rn rc) (.slice C xs.length xc) en i er pl, .agg (exC y).toArray] w fun e w' =>
      ∃ C' c', e = .returned (.tuple #[stV (.slice A n cap) (.slice B rn rc) (.slice C' (xs.length + 1) c') en i er pl, .int .i64 xs.length]) ∧ (C' = none → c' = 0) ∧ SlX exR w' C' (xs.length + 1) (xs ++ [y]) ∧ (∀ a, C' = some a → w.heap.size ≤ a.block) ∧ Below w.heap.size w w' := by
  have HX := Lib.hid hX
  have HC := Lib.hid hc
  clear hX hc
  unfold stV exC
  go_enter Tryz.func44, Tryz.ntmps44
  go_upto_region 2 with fail
  obtain ⟨w1, hw1⟩ : ∃ w1, w1 = ((w.alloc (.cells #[.slice A n cap, .int .i64 en, .int .i64 i, .slice B rn rc, .slice C xs.length xc, .int .i64 er, .int .i64 pl] 68)).alloc (.cells #[.string ⟨y.op.toArray⟩, .string ⟨y.name.toArray⟩, .int .i64 y.value, .int .i64 y.a, .int .i64 y.b, .int .i64 y.c] 104)).alloc (.cells #[.slice none 0 0, .int .i64 0, .int .i64 0, .slice none 0 0, .slice none 0 0, .int .i64 0, .int .i64 0] 68) := ⟨_, rfl⟩
  rw [← hw1]
  obtain ⟨L, hL⟩ : ∃ L, L = w.heap.size := ⟨_, rfl⟩
  have XB : Hid (Box w1 L [.slice A n cap, .int .i64 en, .int .i64 i, .slice B rn rc, .slice C xs.length xc, .int .i64 er, .int .i64 pl]) := Lib.hid (by rw [hw1, hL]; exact ((Box.new _ _ _).alloc _).alloc _)
  have EB : Hid (Box w1 (L + 1) [.string ⟨y.op.toArray⟩, .string ⟨y.name.toArray⟩, .int .i64 y.value, .int .i64 y.a, .int .i64 y.b, .int .i64 y.c]) := Lib.hid (by
    rw [hw1, hL]; refine Box.alloc ?_ _
    have := Box.new (w.alloc (.cells #[.slice A n cap, .int .i64 en, .int .i64 i, .slice B rn rc, .slice C xs.length xc, .int .i64 er, .int .i64 pl] 68)) 104 [.string ⟨y.op.toArray⟩, .string ⟨y.name.toArray⟩, .int .i64 y.value, .int .i64 y.a, .int .i64 y.b, .int .i64 y.c]
    simpa using this)
  have RB : Hid (Box w1 (L + 1 + 1) [.slice none 0 0, .int .i64 0, .int .i64 0, .slice none 0 0, .slice none 0 0, .int .i64 0, .int .i64 0]) := Lib.hid (by
    rw [hw1, hL]
    have := Box.new ((w.alloc (.cells #[.slice A n cap, .int .i64 en, .int .i64 i, .slice B rn rc, .slice C xs.length xc, .int .i64 er, .int .i64 pl] 68)).alloc (.cells #[.string ⟨y.op.toArray⟩, .string ⟨y.name.toArray⟩, .int .i64 y.value, .int .i64 y.a, .int .i64 y.b, .int .i64 y.c] 104)) 68 [.slice none 0 0, .int .i64 0, .int .i64 0, .slice none 0 0, .slice none 0 0, .int .i64 0, .int .i64 0]
    simpa using this)
  have b1 : Below w.heap.size w w1 := by rw [hw1]; exact (((Below.refl _ _).alloc (Nat.le_refl _) _).alloc (by simp) _).alloc (by simp; omega) _
  have B1 := Lib.hid b1
  have HX1 := Lib.hid (HX.out.on b1)
  have hs1 : w1.heap.size = L + 3 := by rw [hw1, hL]; simp
  rw [← hL] at ⊢
  have HLw := Lib.hid hL
  clear hw1 hL b1 HX
  obtain ⟨c0, c1, c2, c3, c4, c5, c6⟩ := box7 XB.out
  go_wp2_with (at_builtin; refine append_recs ref_exTy rfl _ _ rfl w1.heap.size _ [] (by rfl) (World.ownsRow_nil _ _ _ _) C xs.length xc xs (by rfl) HC.out HX1.out (by simp; omega) (Nat.le_refl _) ?_)
  intro v' w2 hown hb2
  have O2 := Lib.hid hown
  have XB2 := Lib.hid (XB.out.keep hb2 (by omega))
  have EB2 := Lib.hid (EB.out.keep hb2 (by omega))
  have RB2 := Lib.hid (RB.out.keep hb2 (by omega))
  have hs2 : L + 3 ≤ w2.heap.size := by have := hb2.size; omega
  have B2 := Lib.hid (B1.out.trans (hb2.mono (by have := HLw.out; omega)))
  clear hown hb2 XB EB RB B1 HX1 hs1 c0 c1 c2 c3 c4 c5 c6 w1 HC
  obtain ⟨e0, e1, e2, e3, e4, e5⟩ := box6 EB2.out
  go_wp2_with (at_builtin; refine append_rec ref_exTy rfl _ _ rfl (L + 3) v' xs y (by rfl) O2.out (by rfl) hn hs2 ?_)
  intro v3 w3 hown hb3
  obtain ⟨C', c', rfl, q1, q2, q3⟩ := slr_of_own hown (by simp)
  have Q1 := Lib.hid q1; have Q3 := Lib.hid q3
  have XB3 := Lib.hid (XB2.out.keep hb3 (by omega))
  have RB3 := Lib.hid (RB2.out.keep hb3 (by omega))
  have B3 := Lib.hid (B2.out.trans (hb3.mono (by have := HLw.out; omega)))
  obtain ⟨D, dc, rfl⟩ : ∃ A c, v' = .slice A xs.length c := by
    obtain ⟨A', cc, h, _⟩ := slr_of_own O2.out rfl
    exact ⟨A', cc, h⟩
  have QF := Lib.hid (own_from hown)
  have QG : Hid (∀ a, C' = some a → w.heap.size ≤ a.block) := Lib.hid (fun a e => by have := QF.out a e; have := HLw.out; omega)
  clear hown q1 q2 q3 hb3 O2 XB2 EB2 RB2 B2 e0 e1 e2 e3 e4 e5
  obtain ⟨c0, c1, c2, c3, c4, c5, c6⟩ := box7 XB3.out
  obtain ⟨g0, g1, g2, g3, g4, g5, g6⟩ := box7f XB3.out
  obtain ⟨d0, d1, d2, d3, d4, d5, d6⟩ := box7 (XB3.out.set 4 (by simp) (.slice C' (xs.length + 1) c'))
  have RB4 := Lib.hid (RB3.out.far (p := ⟨L, 4, none⟩) (by simp; omega) (.slice C' (xs.length + 1) c'))
  obtain ⟨r0, r1, r2, r3, r4, r5, r6⟩ := box7 RB4.out
  obtain ⟨f0, f1, f2, f3, f4, f5, f6⟩ := box7f RB4.out
  obtain ⟨k0, k1, k2, k3, k4, k5, k6⟩ := box7 (RB4.out.all7 (.slice A n cap) (.int .i64 en) (.int .i64 i) (.slice B rn rc) (.slice C' (xs.length + 1) c') (.int .i64 er) (.int .i64 pl))
  have b4 := (Below.refl w3.heap.size w3)
  have QE : Hid (∀ w', w' = (((((((w3.setCell ⟨L, 4, none⟩ (.slice C' (xs.length + 1) c')).setCell ⟨L + 1 + 1, 0, none⟩ (.slice A n cap)).setCell ⟨L + 1 + 1, 1, none⟩ (.int .i64 en)).setCell ⟨L + 1 + 1, 2, none⟩ (.int .i64 i)).setCell ⟨L + 1 + 1, 3, none⟩ (.slice B rn rc)).setCell ⟨L + 1 + 1, 4, none⟩ (.slice C' (xs.length + 1) c')).setCell ⟨L + 1 + 1, 5, none⟩ (.int .i64 er)).setCell ⟨L + 1 + 1, 6, none⟩ (.int .i64 pl) → SlX exR w' C' (xs.length + 1) (xs ++ [y]) ∧ Below w.heap.size w w') := Lib.hid (by
    rintro _ rfl
    refine ⟨?_, below_all7 (by have := HLw.out; omega) (B3.out.setCell (by have := HLw.out; simp; omega) _) _ _ _ _ _ _ _⟩
    exact (((((((Q3.out.far QF.out (by simp) _).far QF.out (by simp) _).far QF.out (by simp) _).far QF.out (by simp) _).far QF.out (by simp) _).far QF.out (by simp) _).far QF.out (by simp) _).far QF.out (by simp) _)
  clear XB3 RB3 RB4 b4 B3
  go_wp2_with fail
  (try simp only [Exit.inBlock, Exit.then])
  refine bodyPost_ret (by simp [results, Tryz.results44, go_sem, k0, k1, k2, k3, k4, k5, k6]; try rfl) rfl ?_
  exact ⟨C', c', rfl, Q1.out, (QE.out _ rfl).1, QG.out, (QE.out _ rfl).2⟩
theorem r8put_any {w : World} {N : Nat} {A B C : Option Addr} {n cap rn rc xc : Nat} {en er pl i : Int} {xs : List PTree.Ex} {y : PTree.Ex} (hX : SlE N w C xs.length xs) (hc : C = none → xc = 0) (hn : xs.length + 1 ≤ 100000) :
    Calls Tryz.prog 44 #[stV (.slice A n cap) (.slice B rn rc) (.slice C xs.length xc) en i er pl, .agg (exC y).toArray] w fun e w' =>
      ∃ C' c', e = .returned (.tuple #[stV (.slice A n cap) (.slice B rn rc) (.slice C' (xs.length + 1) c') en i er pl, .int .i64 xs.length]) ∧ (C' = none → c' = 0) ∧ SlE N w' C' (xs.length + 1) (xs ++ [y]) ∧ Below w.heap.size w w' := by
  refine (r8put_raw hX.1 hc hn).mono ?_
  rintro e w' ⟨C', c', he, h1, h2, h3, hb⟩
  exact ⟨C', c', he, h1, ⟨h2, Nat.lt_of_lt_of_le hX.2.1 hb.size, fun a ea => by have h1 := h3 a ea; have h2 := hX.2.1; omega⟩, hb⟩
end Go.Proofs.YtdkcdgjpcojdfaaGreatDoor

namespace Go.Proofs.YtdkcdgjpcojdfaaGreatDoor
open Go.RowKit

set_option maxHeartbeats 1600000 in
theorem r8one_any {w : World} {A : Option Addr} {c : Nat} {l : List (List UInt8)} {u : ByteArray} (h : SlX strR w A l.length l) (hn : l.length ≤ 100000) :
    Calls Tryz.prog 23 #[.string u, .slice A l.length c] w fun e w' => e = .returned (.bool (decide (u.data.toList ∈ l))) ∧ w = w' := by
  have H := Lib.hid h
  clear h
  go_enter Tryz.func23, Tryz.ntmps23
  go_wp2_with fail
  go_loop [5] (fun i => ∃ (t : Nat), t ≤ l.length ∧ i = .int .i64 t ∧ Hid (∀ j (h : j < l.length), j < t → l[j] ≠ u.data.toList)) (fun i => l.length - (intOf i).toNat)
  case atStart => exact ⟨0, Nat.zero_le _, rfl, (show Hid _ from fun j _ h => absurd h (Nat.not_lt_zero _))⟩
  case round =>
    obtain ⟨t, ht, rfl, HT⟩ := hrel
    by_cases hlt : t < l.length
    · obtain ⟨b, off, rfl, hc⟩ := H.out.at hlt
      have c0 := hc t hlt 0 _ rfl
      have hk : strR.k = 1 := rfl
      rw [hk, Nat.mul_one, Nat.add_zero] at c0
      have hsz := World.block_lt_of_cell? w _ c0
      obtain ⟨x, hx⟩ : ∃ x, l[t] = x := ⟨_, rfl⟩
      rw [hx] at c0
      clear hc
      by_cases e : x = u.data.toList
      · have he := str_eq e
        have HR : Hid (decide (u.data.toList ∈ l) = true) := Lib.hid (decide_eq_true (by rw [← e, ← hx]; exact List.getElem_mem hlt))
        clear e hx
        go_wp2_with fail
        go_ret
        exact ⟨by rw [HR.out]; rfl, rfl⟩
      · have he := str_ne e
        have HT2 : Hid (∀ j (h : j < l.length), j < t + 1 → l[j] ≠ u.data.toList) := Lib.hid (fun j h1 h2 => by
          by_cases ej : j = t
          · subst ej; rw [hx]; exact e
          · exact HT.out j h1 (by omega))
        clear e hx
        go_wp2_with fail
        exact ⟨⟨t + 1, by omega, rfl, HT2⟩, by simp [intOf]; omega⟩
    · obtain rfl : t = l.length := by omega
      have HR : Hid (decide (u.data.toList ∈ l) = false) := Lib.hid (decide_eq_false (fun k => by
        obtain ⟨j, hj, e⟩ := List.getElem_of_mem k
        exact HT.out j hj hj e))
      go_wp2_with fail
      go_ret
      exact ⟨by rw [HR.out]; rfl, rfl⟩
set_option maxHeartbeats 1600000 in
theorem r8taken_any (u : ByteArray) (w : World) : Calls Tryz.prog 25 #[.string u] w fun e w' => e = .returned (.bool (decide (u.data.toList ∈ PTree.takenL))) ∧ Below w.heap.size w w' := by
  have H := Lib.hid (fun w => r8one_any (u := u) (c := 9) (strR_new w 9 PTree.takenL) (by decide))
  go_enter Tryz.func25, Tryz.ntmps25
  go_wp2_with fail
  refine (H.out _).mono ?_
  rintro _ _ ⟨rfl, rfl⟩
  go_wp2_with fail
  go_ret
  exact ⟨rfl, (Below.refl _ _).alloc (Nat.le_refl _) _⟩
set_option maxHeartbeats 1600000 in
theorem r8level_any (n : Nat) (w : World) (hn : n ≤ 2) : Calls Tryz.prog 73 #[.int .i64 n] w fun e w' => ∃ A c, e = .returned (.slice A (PTree.level n).length c) ∧ SlX strR w' A (PTree.level n).length (PTree.level n) ∧ Below w.heap.size w w' := by
  have : n = 0 ∨ n = 1 ∨ n = 2 := by omega
  rcases this with rfl | rfl | rfl
  · go_enter Tryz.func73, Tryz.ntmps73
    go_wp2_with fail
    go_ret
    exact ⟨_, _, rfl, strR_new w 9 (PTree.level 0), (Below.refl _ _).alloc (Nat.le_refl _) _⟩
  · go_enter Tryz.func73, Tryz.ntmps73
    go_wp2_with fail
    go_ret
    exact ⟨_, _, rfl, strR_new w 9 (PTree.level 1), (Below.refl _ _).alloc (Nat.le_refl _) _⟩
  · go_enter Tryz.func73, Tryz.ntmps73
    go_wp2_with fail
    go_ret
    exact ⟨_, _, rfl, strR_new w 9 (PTree.level 2), (Below.refl _ _).alloc (Nat.le_refl _) _⟩
end Go.Proofs.YtdkcdgjpcojdfaaGreatDoor

namespace Go.Proofs.YtdkcdgjpcojdfaaGreatDoor
open Go.RowKit

def stC (L R X : Value) (en i er pl : Int) : List Value := [L, .int .i64 en, .int .i64 i, R, X, .int .i64 er, .int .i64 pl]
def zeroC : List Value := [.slice none 0 0, .int .i64 0, .int .i64 0, .slice none 0 0, .slice none 0 0, .int .i64 0, .int .i64 0]
set_option maxHeartbeats 3200000 in
theorem r8whole_old {w : World} {A B C : Option Addr} {n cap rn rc xn xc : Nat} {en er pl i d : Int} (h : er ≠ 0) :
    Calls Tryz.prog 26 #[stV (.slice A n cap) (.slice B rn rc) (.slice C xn xc) en i er pl, .int .i64 d] w fun ex w' => ex = .returned (.tuple #[stV (.slice A n cap) (.slice B rn rc) (.slice C xn xc) en i er pl, .int .i64 0]) ∧ Below w.heap.size w w' := by
  have e0 : (er == 0) = false := by rw [beq_eq_false_iff_ne]; exact h
  have e1 : (er != 0) = true := by rw [bne_iff_ne]; exact h
  have HW := Lib.hid (fun (w : World) => r8wrong_old (w := w) (A := A) (B := B) (C := C) (n := n) (cap := cap) (rn := rn) (rc := rc) (xn := xn) (xc := xc) (en := en) (er := er) (pl := pl) (i := i) (e := 9) h)
  unfold stV at HW ⊢
  clear h
  by_cases hd : 20 < d
  · go_enter Tryz.func26, Tryz.ntmps26
    go_upto_region 2 with fail
    obtain ⟨w1, hw1, XB, RB, b1, hs1⟩ := enter2 w 68 68 (stC (.slice A n cap) (.slice B rn rc) (.slice C xn xc) en i er pl) zeroC
    unfold stC at hw1 XB; unfold zeroC at hw1 RB
    rw [hw1]
    obtain ⟨L, hL⟩ : ∃ L, w.heap.size = L := ⟨_, rfl⟩
    rw [hL] at XB RB hs1 b1 ⊢
    have XB := Lib.hid XB; have RB := Lib.hid RB; have B1 := Lib.hid b1; have HLw := Lib.hid hL
    clear hw1 hL b1
    obtain ⟨c0, c1, c2, c3, c4, c5, c6⟩ := box7 XB.out
    go_wp2_with fail
    refine (HW.out _).mono ?_
    rintro _ w2 ⟨rfl, b⟩
    clear c0 c1 c2 c3 c4 c5 c6
    have XB2 := XB.out.on b
    obtain ⟨w3, hw3, xb3, ON⟩ := store7 XB2 (.slice A n cap) (.int .i64 en) (.int .i64 i) (.slice B rn rc) (.slice C xn xc) (.int .i64 er) (.int .i64 pl)
    have RB3 := Lib.hid ((RB.out.on b).only ON (by omega))
    have XB3 := Lib.hid xb3
    have B3 := Lib.hid (ON.below (Nat.le_refl _) (B1.out.trans (b.mono (by omega))))
    have HW3 := Lib.hid hw3
    obtain ⟨c0, c1, c2, c3, c4, c5, c6⟩ := box7 XB2
    obtain ⟨f0, f1, f2, f3, f4, f5, f6⟩ := box7f XB2
    clear HW hw3 xb3 ON b XB RB B1 XB2
    go_upto_region 3 with fail
    rw [HW3.out]
    clear HW3 c0 c1 c2 c3 c4 c5 c6 f0 f1 f2 f3 f4 f5 f6 hs1 w2
    obtain ⟨c0, c1, c2, c3, c4, c5, c6⟩ := box7 XB3.out
    obtain ⟨r0, r1, r2, r3, r4, r5, r6⟩ := box7 RB3.out
    obtain ⟨f0, f1, f2, f3, f4, f5, f6⟩ := box7f RB3.out
    obtain ⟨k0, k1, k2, k3, k4, k5, k6⟩ := box7 (RB3.out.all7 (.slice A n cap) (.int .i64 en) (.int .i64 i) (.slice B rn rc) (.slice C xn xc) (.int .i64 er) (.int .i64 pl))
    have BE := Lib.hid (fun a b c d e f g => below_all7 (H := L + 1) (Nat.le_succ L) B3.out a b c d e f g)
    clear B3
    go_wp2_with fail
    (try simp only [Exit.inBlock, Exit.then])
    refine bodyPost_ret (by simp [results, Tryz.results26, go_sem, k0, k1, k2, k3, k4, k5, k6]; try rfl) rfl ?_
    exact ⟨rfl, by rw [HLw.out]; exact BE.out _ _ _ _ _ _ _⟩
  · clear HW
    go_enter Tryz.func26, Tryz.ntmps26
    go_wp2_with fail
    go_returns
    exact ⟨rfl, ((Below.refl _ _).alloc (Nat.le_refl _) _).alloc (by simp) _⟩
set_option maxHeartbeats 3200000 in
set_option maxRecDepth 100000 in
theorem r8factor_old {w : World} {A B C : Option Addr} {n cap rn rc xn xc : Nat} {en er pl i d : Int} (h : er ≠ 0) :
    Calls Tryz.prog 72 #[stV (.slice A n cap) (.slice B rn rc) (.slice C xn xc) en i er pl, .int .i64 d] w fun ex w' => ex = .returned (.tuple #[stV (.slice A n cap) (.slice B rn rc) (.slice C xn xc) en i er pl, .int .i64 0]) ∧ Below w.heap.size w w' := by
  have e0 : (er == 0) = false := by rw [beq_eq_false_iff_ne]; exact h
  have e1 : (er != 0) = true := by rw [bne_iff_ne]; exact h
  have HW := Lib.hid (fun (w : World) => r8wrong_old (w := w) (A := A) (B := B) (C := C) (n := n) (cap := cap) (rn := rn) (rc := rc) (xn := xn) (xc := xc) (en := en) (er := er) (pl := pl) (i := i) (e := 9) h)
  unfold stV at HW ⊢
  clear h
  by_cases hd : 20 < d
  · go_enter Tryz.func72, Tryz.ntmps72
    go_upto_region 2 with fail
    obtain ⟨w1, hw1, XB, RB, b1, hs1⟩ := enter2 w 68 68 (stC (.slice A n cap) (.slice B rn rc) (.slice C xn xc) en i er pl) zeroC
    unfold stC at hw1 XB; unfold zeroC at hw1 RB
    rw [hw1]
    obtain ⟨L, hL⟩ : ∃ L, w.heap.size = L := ⟨_, rfl⟩
    rw [hL] at XB RB hs1 b1 ⊢
    have XB := Lib.hid XB; have RB := Lib.hid RB; have B1 := Lib.hid b1; have HLw := Lib.hid hL
    clear hw1 hL b1
    obtain ⟨c0, c1, c2, c3, c4, c5, c6⟩ := box7 XB.out
    go_wp2_with fail
    refine (HW.out _).mono ?_
    rintro _ w2 ⟨rfl, b⟩
    clear c0 c1 c2 c3 c4 c5 c6
    have XB2 := XB.out.on b
    obtain ⟨w3, hw3, xb3, ON⟩ := store7 XB2 (.slice A n cap) (.int .i64 en) (.int .i64 i) (.slice B rn rc) (.slice C xn xc) (.int .i64 er) (.int .i64 pl)
    have RB3 := Lib.hid ((RB.out.on b).only ON (by omega))
    have XB3 := Lib.hid xb3
    have B3 := Lib.hid (ON.below (Nat.le_refl _) (B1.out.trans (b.mono (by omega))))
    have HW3 := Lib.hid hw3
    obtain ⟨c0, c1, c2, c3, c4, c5, c6⟩ := box7 XB2
    obtain ⟨f0, f1, f2, f3, f4, f5, f6⟩ := box7f XB2
    clear HW hw3 xb3 ON b XB RB B1 XB2
    go_upto_region 3 with fail
    rw [HW3.out]
    clear HW3 c0 c1 c2 c3 c4 c5 c6 f0 f1 f2 f3 f4 f5 f6 hs1 w2
    obtain ⟨c0, c1, c2, c3, c4, c5, c6⟩ := box7 XB3.out
    obtain ⟨r0, r1, r2, r3, r4, r5, r6⟩ := box7 RB3.out
    obtain ⟨f0, f1, f2, f3, f4, f5, f6⟩ := box7f RB3.out
    obtain ⟨k0, k1, k2, k3, k4, k5, k6⟩ := box7 (RB3.out.all7 (.slice A n cap) (.int .i64 en) (.int .i64 i) (.slice B rn rc) (.slice C xn xc) (.int .i64 er) (.int .i64 pl))
    have BE := Lib.hid (fun a b c d e f g => below_all7 (H := L + 1) (Nat.le_succ L) B3.out a b c d e f g)
    clear B3
    go_wp2_with fail
    (try simp only [Exit.inBlock, Exit.then])
    refine bodyPost_ret (by simp [results, Tryz.results72, go_sem, k0, k1, k2, k3, k4, k5, k6]; try rfl) rfl ?_
    exact ⟨rfl, by rw [HLw.out]; exact BE.out _ _ _ _ _ _ _⟩
  · clear HW
    go_enter Tryz.func72, Tryz.ntmps72
    go_wp2_with fail
    go_returns
    exact ⟨rfl, ((Below.refl _ _).alloc (Nat.le_refl _) _).alloc (by simp) _⟩
end Go.Proofs.YtdkcdgjpcojdfaaGreatDoor

namespace Go.Proofs.YtdkcdgjpcojdfaaGreatDoor
open Go.RowKit
open PTree (R Ex Tr Md)

structure Cfg where
  A : Option Addr
  cap : Nat
  B : Option Addr
  rn : Nat
  rc : Nat
  en : Nat
  pl : Int
  ls : List PLex.Tok
  /-- No row of expressions lies in this block. -/
  N : Nat
def sv (c : Cfg) (C : Option Addr) (n k : Nat) (i er p : Int) : Value := stV (.slice c.A c.ls.length c.cap) (.slice c.B c.rn c.rc) (.slice C n k) c.en i er p
def sc (c : Cfg) (C : Option Addr) (n k : Nat) (i er p : Int) : List Value := stC (.slice c.A c.ls.length c.cap) (.slice c.B c.rn c.rc) (.slice C n k) c.en i er p
def RS (c : Cfg) {β : Type} (r : Option (R β)) (X : β → List Ex) (bd : Nat) (C : Option Addr) (n k : Nat) (i er p : Int) (w : World) : Prop :=
  (C = none → k = 0) ∧ ∃ ys : List Ex, ys.length = n ∧ SlE c.N w C n ys ∧ ys.length ≤ bd ∧ match r with
    | none => False
    | some (.bad e q) => (e = 2 ∨ e = 9) ∧ er = (e : Nat) ∧ p = (q : Nat)
    | some (.ok ts b) => ys = X b ∧ er = 0 ∧ p = c.pl ∧ ∃ j : Nat, ts = c.ls.drop j ∧ j ≤ c.ls.length ∧ i = j
variable {c : Cfg} {β : Type} {r : Option (R β)} {X : β → List Ex} {bd n k : Nat} {C : Option Addr} {i er p : Int} {w w' : World}
theorem RS.on (h : RS c r X bd C n k i er p w) (hb : Below w.heap.size w w') : RS c r X bd C n k i er p w' := by
  obtain ⟨h1, ys, h2, h3, h4⟩ := h
  exact ⟨h1, ys, h2, h3.on hb, h4⟩
theorem RS.only {H : Nat} {vs : List Value} (h : RS c r X bd C n k i er p w) (hb : Box w H vs) (hv : ∀ u, Value.string u ∉ vs) (ho : Only H w w') : RS c r X bd C n k i er p w' := by
  obtain ⟨h1, ys, h2, h3, h4⟩ := h
  refine ⟨h1, ys, h2, h3.cellsE ho.size (fun b hA h0 o => ?_), h4⟩
  obtain ⟨off, rfl⟩ := hA
  obtain ⟨b', off', e, hc⟩ := h3.at (i := 0) (by omega)
  cases e
  have c0 := hc 0 (by omega) 0 _ rfl
  exact ho.cell ⟨b, o, none⟩ (hb.apart c0 (hv _))
theorem SlT.only {H : Nat} {vs : List Value} {A : Option Addr} {l : List PLex.Tok} (h : SlT w A l.length l) (hb : Box w H vs) (hv : ∀ u, Value.string u ∉ vs) (ho : Only H w w') : SlT w' A l.length l := by
  obtain ⟨h1, h2⟩ := h
  refine ⟨h1, ?_⟩
  by_cases h0 : l.length = 0
  · exact .inl h0
  rcases h2 with h2 | ⟨b, off, h3, h4⟩
  · exact .inl h2
  · have hb := hb.apart (h4 0 (by omega)).2.1 (hv _)
    exact .inr ⟨b, off, h3, fun i hi => ⟨(ho.cell ⟨b, _, none⟩ hb).trans (h4 i hi).1, (ho.cell ⟨b, _, none⟩ hb).trans (h4 i hi).2.1, (ho.cell ⟨b, _, none⟩ hb).trans (h4 i hi).2.2⟩⟩
theorem sc_str (c : Cfg) (C : Option Addr) (n k : Nat) (i er p : Int) (u : ByteArray) : Value.string u ∉ sc c C n k i er p := by simp [sc, stC]
theorem zero_str (u : ByteArray) : Value.string u ∉ zeroC := by simp [zeroC]
theorem drop_pos {s : List UInt8} {ls : List PLex.Tok} {j : Nat} (h : PTree.textOf (ls.drop j) = s) (hs : s ≠ []) : j < ls.length := by
  by_cases hj : j < ls.length
  · exact hj
  · rw [List.drop_of_length_le (by omega)] at h
    exact absurd h.symm hs
theorem r8must (h : RS c r X bd C n k i er p w) (hA : SlT w c.A c.ls.length c.ls) (hl : c.ls.length ≤ 1000) (u : ByteArray) (hu : u.data.toList ≠ []) :
    Calls Tryz.prog 27 #[sv c C n k i er p, .string u] w fun e w' => ∃ C' n' k' i' er' p', e = .returned (sv c C' n' k' i' er' p') ∧
      RS c (R.next r fun ts b => R.next (PTree.must c.en u.data.toList ts) fun t1 _ => some (.ok t1 b)) X bd C' n' k' i' er' p' w' ∧ Below w.heap.size w w' := by
  obtain ⟨h1, ys, h2, h3, h4, h5⟩ := h
  cases r with
  | none => exact h5.elim
  | some r =>
    cases r with
    | bad e q =>
      obtain ⟨he, rfl, rfl⟩ := h5
      refine (r8must_old (by omega)).mono fun x w' hx => ?_
      exact ⟨C, n, k, i, _, _, hx.1, ⟨h1, ys, h2, h3.on hx.2, h4, he, rfl, rfl⟩, hx.2⟩
    | ok ts b =>
      obtain ⟨h6, rfl, rfl, j, rfl, hj, rfl⟩ := h5
      by_cases ht : PTree.textOf (c.ls.drop j) = u.data.toList
      · have hlt := drop_pos ht hu
        refine (r8must_ok hA hlt (by omega) ht).mono fun x w' hx => ?_
        refine ⟨C, n, k, _, _, _, hx.1, ⟨h1, ys, h2, h3.on hx.2, h4, ?_⟩, hx.2⟩
        simp only [R.next, PTree.must, if_pos ht]
        exact ⟨h6, by first | rfl | trivial, by first | rfl | trivial, j + 1, by rw [List.tail_drop], by omega, by first | rfl | trivial⟩
      · refine (r8must_bad hA hj ht).mono fun x w' hx => ?_
        refine ⟨C, n, k, _, _, _, hx.1, ⟨h1, ys, h2, h3.on hx.2, h4, ?_⟩, hx.2⟩
        simp only [R.next, PTree.must, if_neg ht]
        exact ⟨.inl (by first | rfl | trivial), by first | rfl | trivial, by first | rfl | trivial⟩
theorem r8put (h : RS c r X bd C n k i er p w) (hbd : bd + 1 ≤ 100000) (y : Ex) :
    Calls Tryz.prog 44 #[sv c C n k i er p, .agg (exC y).toArray] w fun e w' => ∃ C' n' k', e = .returned (.tuple #[sv c C' n' k' i er p, .int .i64 n]) ∧ n' = n + 1 ∧
      RS c r (fun b => X b ++ [y]) (bd + 1) C' n' k' i er p w' ∧ Below w.heap.size w w' := by
  obtain ⟨h1, ys, rfl, h3, h4, h5⟩ := h
  refine (r8put_any h3 h1 (by omega)).mono fun x w' hx => ?_
  obtain ⟨C', c', e, q1, q2, q3⟩ := hx
  refine ⟨C', _, c', e, rfl, ⟨q1, ys ++ [y], by simp, q2, by simp; omega, ?_⟩, q3⟩
  cases r with
  | none => exact h5.elim
  | some r =>
    cases r with
    | bad e q => exact h5
    | ok ts b =>
      obtain ⟨rfl, h⟩ := h5
      exact ⟨rfl, h⟩
def Ans (c : Cfg) (xs : List Ex) (bd : Nat) (r : Option (R Tr)) (w : World) (e : Ending) (w' : World) : Prop :=
  ∃ C n k i er p a, e = .returned (.tuple #[sv c C n k i er p, .int .i64 (a : Nat)]) ∧ RS c r (fun t => xs ++ t.flat xs.length) bd C n k i er p w' ∧ (∀ ts t, r = some (.ok ts t) → a = xs.length + t.size - 1) ∧ Below w.heap.size w w'
theorem RS.bind {f : Nat} {N : List PLex.Tok → Option (R Tr)} {args : Value → Array Value} {bd' : Nat} (h : RS c r X bd C n k i er p w)
    (hold : ∀ (er' : Int) (w : World), er' ≠ 0 → Calls Tryz.prog f (args (sv c C n k i er' p)) w fun ex w' => ex = .returned (.tuple #[sv c C n k i er' p, .int .i64 0]) ∧ Below w.heap.size w w')
    (hnew : ∀ ts b (j : Nat), r = some (.ok ts b) → ts = c.ls.drop j → j ≤ c.ls.length → i = j → p = c.pl → er = 0 → (X b).length = n → SlE c.N w C (X b).length (X b) → (X b).length ≤ bd → Calls Tryz.prog f (args (sv c C n k i er p)) w (Ans c (X b) bd' (N ts) w)) (hb : bd ≤ bd') :
    Calls Tryz.prog f (args (sv c C n k i er p)) w fun e w' => ∃ C' n' k' i' er' p' a, e = .returned (.tuple #[sv c C' n' k' i' er' p', .int .i64 (a : Nat)]) ∧
      RS c (R.next r fun ts b => R.next (N ts) fun t1 t => some (.ok t1 (b, t))) (fun q => X q.1 ++ q.2.flat (X q.1).length) bd' C' n' k' i' er' p' w' ∧
      (∀ ts b t, (R.next r fun ts b => R.next (N ts) fun t1 t => some (.ok t1 (b, t))) = some (.ok ts (b, t)) → a = (X b).length + t.size - 1) ∧ Below w.heap.size w w' := by
  obtain ⟨h1, ys, rfl, h3, h4, h5⟩ := h
  cases r with
  | none => exact h5.elim
  | some r =>
    cases r with
    | bad e q =>
      obtain ⟨he, rfl, rfl⟩ := h5
      refine (hold _ w (by omega)).mono fun x w' hx => ?_
      exact ⟨C, _, k, i, _, _, 0, hx.1, ⟨h1, ys, rfl, h3.on hx.2, by omega, he, rfl, rfl⟩, fun _ _ _ e => (by cases e), hx.2⟩
    | ok ts b =>
      obtain ⟨rfl, rfl, rfl, j, rfl, hj, rfl⟩ := h5
      refine (hnew _ b j rfl rfl hj rfl rfl rfl rfl h3 h4).mono fun x w' hx => ?_
      obtain ⟨C', n', k', i', er', p', a, e, hR, ha, hB⟩ := hx
      refine ⟨C', n', k', i', er', p', a, e, ?_, ?_, hB⟩
      · obtain ⟨g1, zs, g2, g3, g4, g5⟩ := hR
        refine ⟨g1, zs, g2, g3, g4, ?_⟩
        simp only [R.next]
        cases hN : N (c.ls.drop j) with
        | none => rw [hN] at g5; exact g5.elim
        | some q =>
          rw [hN] at g5
          cases q with
          | bad e q => exact g5
          | ok t1 t => exact g5
      · intro ts b' t e'
        simp only [R.next] at e'
        cases hN : N (c.ls.drop j) with
        | none => rw [hN] at e'; cases e'
        | some q =>
          rw [hN] at e'
          cases q with
          | bad e q => cases e'
          | ok t1 t2 =>
            cases e'
            exact ha _ _ hN
theorem next_ok {α β : Type} {x : Option (R α)} {k : List PLex.Tok → α → Option (R β)} {ts : List PLex.Tok} {b : β} (h : R.next x k = some (.ok ts b)) : ∃ t1 a, x = some (.ok t1 a) ∧ k t1 a = some (.ok ts b) := by
  cases x with
  | none => cases h
  | some r =>
    cases r with
    | bad e p => cases h
    | ok t1 a => exact ⟨t1, a, rfl, h⟩
theorem RS.conv {γ : Type} {r' : Option (R γ)} {X' : γ → List Ex} (h : RS c r X bd C n k i er p w) (h1 : ∀ e q, r = some (.bad e q) → r' = some (.bad e q)) (h2 : ∀ ts b, r = some (.ok ts b) → ∃ t, r' = some (.ok ts t) ∧ X b = X' t) : RS c r' X' bd C n k i er p w := by
  obtain ⟨g1, ys, g2, g3, g4, g5⟩ := h
  refine ⟨g1, ys, g2, g3, g4, ?_⟩
  cases r with
  | none => exact g5.elim
  | some r =>
    cases r with
    | bad e q => rw [h1 e q rfl]; exact g5
    | ok ts b =>
      obtain ⟨t, e, hX⟩ := h2 ts b rfl
      rw [e]
      obtain ⟨rfl, g⟩ := g5
      exact ⟨hX, g⟩
theorem RS.less {bd' : Nat} (h : RS c r X bd C n k i er p w) (hb : bd ≤ bd') : RS c r X bd' C n k i er p w := by
  obtain ⟨g1, ys, g2, g3, g4, g5⟩ := h
  exact ⟨g1, ys, g2, g3, by omega, g5⟩
theorem rs_start {xs : List Ex} {j : Nat} (hC : C = none → k = 0) (hx : SlE c.N w C xs.length xs) (hj : j ≤ c.ls.length) (hb : xs.length ≤ bd) : RS c (some (.ok (c.ls.drop j) ())) (fun _ => xs) bd C xs.length k j 0 c.pl w :=
  ⟨hC, xs, rfl, hx, hb, rfl, rfl, rfl, j, rfl, hj, rfl⟩
theorem next_assoc {α β γ : Type} (x : Option (R α)) (f : List PLex.Tok → α → Option (R β)) (g : List PLex.Tok → β → Option (R γ)) : R.next (R.next x f) g = R.next x fun ts a => R.next (f ts a) g := by
  cases x with
  | none => rfl
  | some r => cases r <;> rfl
theorem next_some {α β : Type} (ts : List PLex.Tok) (a : α) (f : List PLex.Tok → α → Option (R β)) : R.next (some (.ok ts a)) f = f ts a := rfl
theorem RS.len {ts : List PLex.Tok} {b : β} (h : RS c r X bd C n k i er p w) (hr : r = some (.ok ts b)) : n = (X b).length := by
  subst hr
  obtain ⟨_, ys, h2, _, _, h5, _⟩ := h
  rw [← h2, h5]
theorem RS.done {γ : Type} {r' : Option (R γ)} {X' : γ → List Ex} {g : β → γ} (h : RS c r X bd C n k i er p w) (hr : r' = R.next r fun ts b => some (.ok ts (g b))) (hX : ∀ ts b, r = some (.ok ts b) → X b = X' (g b)) : RS c r' X' bd C n k i er p w := by
  refine h.conv (fun e q k => by rw [hr, k]; rfl) (fun ts b k => ⟨g b, by rw [hr, k]; rfl, hX ts b k⟩)
theorem RS.split (h : RS c r X bd C n k i er p w) : (er ≠ 0 ∧ ∃ e q, r = some (.bad e q)) ∨
    (er = 0 ∧ p = c.pl ∧ ∃ b, ∃ j : Nat, r = some (.ok (c.ls.drop j) b) ∧ j ≤ c.ls.length ∧ i = j ∧ n = (X b).length ∧ SlE c.N w C (X b).length (X b) ∧ (C = none → k = 0)) := by
  obtain ⟨g1, ys, rfl, g3, g4, g5⟩ := h
  cases r with
  | none => exact g5.elim
  | some r =>
    cases r with
    | bad e q => exact .inl ⟨by omega, e, q, rfl⟩
    | ok ts b =>
      obtain ⟨rfl, g6, g7, j, rfl, g8, g9⟩ := g5
      exact .inr ⟨g6, g7, b, j, rfl, g8, g9, rfl, g3, g1⟩
def stM (w : World) (L : Nat) : Nat := if intOf ((w.cell? ⟨L, 5, none⟩).getD (.int .i64 0)) = 0 then (2000 - intOf ((w.cell? ⟨L, 2, none⟩).getD (.int .i64 0))).toNat else 0
theorem stM_box {L : Nat} (h : Box w L (sc c C n k i er p)) : stM w L = if er = 0 then (2000 - i).toNat else 0 := by
  obtain ⟨_, _, c2, _, _, c5, _⟩ := box7 h
  unfold stM; rw [c2, c5]; rfl
def WholeC (c : Cfg) (N : Nat) : Prop := ∀ (d j : Nat) (xs : List Ex) (C : Option Addr) (k : Nat) (w : World), 10 * (c.ls.length - j) + 9 < N → j ≤ c.ls.length → d ≤ 21 → SlT w c.A c.ls.length c.ls → SlE c.N w C xs.length xs → (C = none → k = 0) →
  xs.length + (c.ls.length - j) + 5 * (22 - d) + 4 ≤ 5000 → Calls Tryz.prog 26 #[sv c C xs.length k j 0 c.pl, .int .i64 d] w (Ans c xs (xs.length + (c.ls.length - j) + 5 * (22 - d) + 4) (PTree.ex c.en .whole d (c.ls.drop j)) w)
def ChainC (c : Cfg) (N : Nat) : Prop := ∀ (m d j : Nat) (xs : List Ex) (C : Option Addr) (k : Nat) (w : World), 10 * (c.ls.length - j) + (Md.chain m).c < N → m ≤ 3 → j ≤ c.ls.length → d ≤ 21 → SlT w c.A c.ls.length c.ls → SlE c.N w C xs.length xs → (C = none → k = 0) →
  xs.length + (c.ls.length - j) + 5 * (22 - d) + (3 - m) ≤ 5000 → Calls Tryz.prog 43 #[sv c C xs.length k j 0 c.pl, .int .i64 d, .int .i64 m] w (Ans c xs (xs.length + (c.ls.length - j) + 5 * (22 - d) + (3 - m)) (PTree.ex c.en (.chain m) d (c.ls.drop j)) w)
def FactorC (c : Cfg) (N : Nat) : Prop := ∀ (d j : Nat) (xs : List Ex) (C : Option Addr) (k : Nat) (w : World), 10 * (c.ls.length - j) + 4 < N → j ≤ c.ls.length → d ≤ 21 → SlT w c.A c.ls.length c.ls → SlE c.N w C xs.length xs → (C = none → k = 0) →
  xs.length + (c.ls.length - j) + 5 * (22 - d) ≤ 5000 → Calls Tryz.prog 72 #[sv c C xs.length k j 0 c.pl, .int .i64 d] w (Ans c xs (xs.length + (c.ls.length - j) + 5 * (22 - d)) (PTree.ex c.en .factor d (c.ls.drop j)) w)
def Fx {β : Type} (r : Option (R β)) (X : β → List Ex) (M K : Nat) : Prop := ∀ ts b, r = some (.ok ts b) → ts.length + 1 ≤ M ∧ (X b).length + ts.length + 1 ≤ K
def Nx (en : Nat) (m : Md) (D : Nat) {β : Type} (r : Option (R β)) : Option (R (β × Tr)) := R.next r fun ts b => R.next (PTree.ex en m D ts) fun t1 t => some (.ok t1 (b, t))
def XN {β : Type} (X : β → List Ex) (q : β × Tr) : List Ex := X q.1 ++ q.2.flat (X q.1).length
def Mx (en : Nat) (s : List UInt8) {β : Type} (r : Option (R β)) : Option (R β) := R.next r fun ts b => R.next (PTree.must en s ts) fun t1 _ => some (.ok t1 b)
theorem Fx.part {en : Nat} {m : Md} {D M K : Nat} (h : Fx r X M K) (hm : m.sz = 0) : Fx (Nx en m D r) (XN X) M K := by
  intro ts q e
  obtain ⟨t1, b, e1, e2⟩ := next_ok e
  obtain ⟨t2, t, e3, e4⟩ := next_ok e2
  cases e4
  have h1 := h _ _ e1
  have h2 := PTree.ex_few en m D t1 _ _ e3
  rw [hm, Nat.zero_add] at h2
  have h3 := t.size_pos
  simp only [XN, List.length_append, Tr.flat_len]
  omega
theorem Fx.word {en : Nat} {s : List UInt8} {M K : Nat} (h : Fx r X M K) (hs : s ≠ []) : Fx (Mx en s r) X M K := by
  intro ts q e
  obtain ⟨t1, b, e1, e2⟩ := next_ok e
  obtain ⟨t2, t, e3, e4⟩ := next_ok e2
  cases e4
  have h1 := h _ _ e1
  have h2 := PTree.must_few (en := en) hs t1 _ _ e3
  omega
theorem bind_must (h : RS c r X bd C n k i er p w) (hA : SlT w c.A c.ls.length c.ls) (hl : c.ls.length ≤ 1000) (u : ByteArray) (hu : u.data.toList ≠ []) :
    Calls Tryz.prog 27 #[sv c C n k i er p, .string u] w fun e w' => ∃ C' n' k' i' er' p', e = .returned (sv c C' n' k' i' er' p') ∧
      RS c (Mx c.en u.data.toList r) X bd C' n' k' i' er' p' w' ∧ Below w.heap.size w w' := r8must h hA hl u hu
theorem bind_whole {N D M K : Nat} (IW : WholeC c N) (hD : D ≤ 21) (h : RS c r X bd C n k i er p w) (hf : Fx r X M K) (hA : SlT w c.A c.ls.length c.ls) (hM : 10 * M ≤ N) (hK : K + 5 * (22 - D) + 3 ≤ bd) (hb : bd ≤ 4999) :
    Calls Tryz.prog 26 #[sv c C n k i er p, .int .i64 D] w fun e w' => ∃ C' n' k' i' er' p' a, e = .returned (.tuple #[sv c C' n' k' i' er' p', .int .i64 (a : Nat)]) ∧
      RS c (Nx c.en .whole D r) (XN X) bd C' n' k' i' er' p' w' ∧ (∀ ts b t, Nx c.en .whole D r = some (.ok ts (b, t)) → a = (X b).length + t.size - 1) ∧ Below w.heap.size w w' := by
  refine RS.bind (N := fun ts => PTree.ex c.en .whole D ts) (args := fun V => #[V, .int .i64 D]) h (fun er' w h => r8whole_old h) (fun ts b j hr hts hj hi hp her hlen hsl hbd => ?_) (Nat.le_refl _)
  subst hts hi hp her hlen
  obtain ⟨f1, f2⟩ := hf _ _ hr
  rw [List.length_drop] at f1 f2
  refine (IW D j (X b) C k w (by omega) hj hD hA hsl h.1 (by omega)).mono fun x w' hx => ?_
  obtain ⟨C', n', k', i', er', p', a, e, hR, ha, hB⟩ := hx
  exact ⟨C', n', k', i', er', p', a, e, hR.less (by omega), ha, hB⟩
theorem bind_factor {N D M K : Nat} (IF : FactorC c N) (hD : D ≤ 21) (h : RS c r X bd C n k i er p w) (hf : Fx r X M K) (hA : SlT w c.A c.ls.length c.ls) (hM : 10 * M ≤ N + 5) (hK : K + 5 * (22 - D) ≤ bd + 1) (hb : bd ≤ 4999) :
    Calls Tryz.prog 72 #[sv c C n k i er p, .int .i64 D] w fun e w' => ∃ C' n' k' i' er' p' a, e = .returned (.tuple #[sv c C' n' k' i' er' p', .int .i64 (a : Nat)]) ∧
      RS c (Nx c.en .factor D r) (XN X) bd C' n' k' i' er' p' w' ∧ (∀ ts b t, Nx c.en .factor D r = some (.ok ts (b, t)) → a = (X b).length + t.size - 1) ∧ Below w.heap.size w w' := by
  refine RS.bind (N := fun ts => PTree.ex c.en .factor D ts) (args := fun V => #[V, .int .i64 D]) h (fun er' w h => r8factor_old h) (fun ts b j hr hts hj hi hp her hlen hsl hbd => ?_) (Nat.le_refl _)
  subst hts hi hp her hlen
  obtain ⟨f1, f2⟩ := hf _ _ hr
  rw [List.length_drop] at f1 f2
  refine (IF D j (X b) C k w (by omega) hj hD hA hsl h.1 (by omega)).mono fun x w' hx => ?_
  obtain ⟨C', n', k', i', er', p', a, e, hR, ha, hB⟩ := hx
  exact ⟨C', n', k', i', er', p', a, e, hR.less (by omega), ha, hB⟩
end Go.Proofs.YtdkcdgjpcojdfaaGreatDoor
