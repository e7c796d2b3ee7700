/-
  A reader of rules in memory: the tokens that are left, the expressions so far; its least methods.
-/
import Derived.Deep.DeepCutAuto
import Derived.Deep.CutBlock
import Derived.Test.YtdkcdgjpcojdfaaGreatDoorTreeRowsG
import Derived.Test.YtdkcdgjpcojdfaaGreatDoorKT
import Derived.Test.YtdkcdgjpcojdfaaGreatDoorBK
import Derived.Deep.QuietTactic
import Derived.BigQuiet
import Derived.Handy

namespace PTree
open PLex (Tok)
def tx (ls : List Tok) (j : Nat) : List UInt8 := match ls[j]? with | some t => t.text | none => []
def kd (ls : List Tok) (j : Nat) : Nat := match ls[j]? with | some t => t.kind | none => 0
def pl (en : Nat) (ls : List Tok) (j : Nat) : Nat := match ls[j]? with | some t => t.at_ | none => en
theorem pl_drop (en : Nat) (ls : List Tok) (j : Nat) : placeOf en (ls.drop j) = pl en ls j := by
  unfold pl
  by_cases h : j < ls.length
  · rw [List.getElem?_eq_getElem h, List.drop_eq_getElem_cons h]; rfl
  · rw [List.getElem?_eq_none (by omega), List.drop_of_length_le (by omega)]; rfl
theorem tx_at {ls : List Tok} {j : Nat} (h : j < ls.length) : tx ls j = ls[j].text := by unfold tx; rw [List.getElem?_eq_getElem h]
theorem tx_pos {ls : List Tok} {j : Nat} (h : tx ls j ≠ []) : j < ls.length := by
  by_cases hj : j < ls.length
  · exact hj
  · exact absurd (by unfold tx; rw [List.getElem?_eq_none (by omega)]) h
def Wd (u : List UInt8) : Prop := ∃ c r, u = c :: r ∧ PLex.isDig c = false
theorem Wd.ne {u : List UInt8} (h : Wd u) : u ≠ [] := by obtain ⟨c, r, rfl, _⟩ := h; exact List.cons_ne_nil _ _
def Toks (ls : List Tok) : Prop := ∀ x ∈ ls, PLex.Lone PLex.kindOf x.kind x.text ∧ x.text.length ≤ 4000
end PTree
namespace PLex
theorem kindOf_num {l : List UInt8} : kindOf l = 0 ∨ kindOf l = 2 ∨ kindOf l = 3 ∨ kindOf l = 4 := by
  unfold kindOf
  (repeat' split) <;> simp
theorem Lone.num {k : Nat} {c : UInt8} {r : List UInt8} (h : Lone kindOf k (c :: r)) : if isDig c = true then k = 2 ∨ k = 3 ∨ k = 4 else k = 1 ∨ k = 5 := by
  obtain ⟨c', r', e, h1, ⟨h2, h3⟩, h4⟩ := h
  cases e
  have e1 : (step kindOf (c :: r)).1 = k := by rw [h1]
  simp only [step] at e1
  by_cases g1 : c = 32 ∨ c = 10
  · rw [if_pos g1] at e1; simp only [] at e1; omega
  rw [if_neg g1, if_neg h4] at e1
  by_cases g2 : isLet c = true
  · rw [if_pos g2] at e1
    have hd : ¬ isDig c = true := by
      unfold isLet at g2; unfold isDig
      simp only [Bool.and_eq_true, decide_eq_true_eq] at g2 ⊢
      omega
    rw [if_neg hd]
    simp only [] at e1
    split at e1 <;> omega
  rw [if_neg g2] at e1
  by_cases g4 : isDig c = true
  · rw [if_pos g4] at e1 ⊢
    simp only [] at e1
    have := kindOf_num (l := c :: r.takeWhile isRun)
    omega
  rw [if_neg g4] at e1 ⊢
  by_cases g5 : isSgn c = true
  · rw [if_pos g5] at e1; simp only [] at e1; omega
  · rw [if_neg g5] at e1; simp only [] at e1; omega
end PLex
namespace Go.Proofs.YtdkcdgjpcojdfaaGreatDoor
open Go.RowKit
open PTree (Ex Tr tx kd pl)

theorem tree_exTy : RecTy exR 58 30 64 where
  info := ⟨.agg #[.string ⟨#[]⟩, .string ⟨#[]⟩, .int .i64 0, .int .i64 0, .int .i64 0, .int .i64 0], by kernel_rfl, by rfl⟩
  under := by kernel_rfl
  few := by decide
structure Rc where
  b : Nat
  off : Nat
  cap : Nat
  ls : List PLex.Tok
  en : Nat
  H : Nat
def Rc.p (c : Rc) : Value := .pointer (some ⟨c.H, 0, none⟩)
def Rc.T (c : Rc) (w : World) : Prop := ∀ i, i ≤ c.ls.length → w.cell? ⟨c.b, c.off + i * 3, none⟩ = some (.int .i64 (kd c.ls i : Nat)) ∧ w.cell? ⟨c.b, c.off + i * 3 + 1, none⟩ = some (.string ⟨(tx c.ls i).toArray⟩) ∧ w.cell? ⟨c.b, c.off + i * 3 + 2, none⟩ = some (.int .i64 (pl c.en c.ls i : Nat))
def Rd (c : Rc) (w : World) (j : Nat) (xs : List Ex) : Prop :=
  c.b < c.H ∧ c.T w ∧ j ≤ c.ls.length ∧ c.ls.length ≤ 4000 ∧ c.ls.length + 1 ≤ c.cap ∧ ∃ V, Box w c.H [.slice (some ⟨c.b, c.off + j * 3, none⟩) (c.ls.length + 1 - j) (c.cap - j), V] ∧ w.ownsRow (c.H + 1) 58 6 V xs.length (exR.cells xs)
variable {c : Rc} {w w' : World} {j : Nat} {xs : List Ex}
theorem Rc.T.keep (h : c.T w) (hb : Below c.H w w') (hl : c.b < c.H) : c.T w' := fun i hi =>
  ⟨(hb.cell (p := ⟨c.b, _, none⟩) hl).trans (h i hi).1, (hb.cell (p := ⟨c.b, _, none⟩) hl).trans (h i hi).2.1, (hb.cell (p := ⟨c.b, _, none⟩) hl).trans (h i hi).2.2⟩
theorem Rd.on (h : Rd c w j xs) (hb : Below w.heap.size w w') : Rd c w' j xs := by
  obtain ⟨h1, h2, h3, h4, h7, V, h5, h6⟩ := h
  exact ⟨h1, h2.keep (hb.mono (Nat.le_of_lt h5.1)) h1, h3, h4, h7, V, h5.on hb, own_kept h6 hb⟩
theorem Rd.lt (h : Rd c w j xs) : c.H < w.heap.size := by obtain ⟨_, _, _, _, _, V, h5, _⟩ := h; exact h5.1
theorem Rd.le (h : Rd c w j xs) : j ≤ c.ls.length := h.2.2.1
theorem Rd.see (h : Rd c w j xs) : ∃ o n cp V, c.off + j * 3 = o ∧ c.ls.length + 1 - j = n ∧ c.cap - j = cp ∧ 0 < n ∧ n ≤ cp ∧ Box w c.H [.slice (some ⟨c.b, o, none⟩) n cp, V] ∧
    w.cell? ⟨c.b, o, none⟩ = some (.int .i64 (kd c.ls j : Nat)) ∧ w.cell? ⟨c.b, o + 1, none⟩ = some (.string ⟨(tx c.ls j).toArray⟩) ∧ w.cell? ⟨c.b, o + 2, none⟩ = some (.int .i64 (pl c.en c.ls j : Nat)) := by
  obtain ⟨h1, h2, h3, h4, h7, V, h5, h6⟩ := h
  obtain ⟨t0, t1, t2⟩ := h2 j h3
  exact ⟨_, _, _, V, rfl, rfl, rfl, by omega, by omega, h5, t0, t1, t2⟩
theorem box2 {H : Nat} {a b : Value} (h : Box w H [a, b]) : w.cell? ⟨H, 0, none⟩ = some a ∧ w.cell? ⟨H, 1, none⟩ = some b := ⟨h.c 0 rfl, h.c 1 rfl⟩
theorem box2f {H : Nat} {a b : Value} (h : Box w H [a, b]) : w.frozen? ⟨H, 0, none⟩ = false ∧ w.frozen? ⟨H, 1, none⟩ = false := ⟨h.f 0 rfl, h.f 1 rfl⟩
def Fr (c : Rc) (w : World) (b : Nat) : Prop := b < w.heap.size ∧ b ≠ c.H ∧ ∀ V, w.cell? ⟨c.H, 1, none⟩ = some V → V.ownBlock ≠ some b
def Kp (c : Rc) (w w' : World) : Prop := ∀ b, Fr c w b → Fr c w' b ∧ w'.heap[b]? = w.heap[b]?
theorem Kp.cells (h : Kp c w w') {b : Nat} (hb : Fr c w b) (o : Nat) : w'.cell? ⟨b, o, none⟩ = w.cell? ⟨b, o, none⟩ ∧ w'.frozen? ⟨b, o, none⟩ = w.frozen? ⟨b, o, none⟩ :=
  ⟨World.cell?_of_block (w := w) (h b hb).2, World.frozen?_of_block (w := w) (h b hb).2⟩
theorem Kp.refl (c : Rc) (w : World) : Kp c w w := fun _ h => ⟨h, rfl⟩
theorem Kp.trans {w1 w2 w3 : World} (h : Kp c w1 w2) (k : Kp c w2 w3) : Kp c w1 w3 := fun b hb => ⟨(k b (h b hb).1).1, (k b (h b hb).1).2.trans (h b hb).2⟩
theorem Kp.below (hl : c.H < w.heap.size) (hb : Below w.heap.size w w') : Kp c w w' := fun b h =>
  ⟨⟨Nat.lt_of_lt_of_le h.1 hb.size, h.2.1, fun V e => h.2.2 V (by rw [← hb.cell (p := ⟨c.H, 1, none⟩) hl]; exact e)⟩, hb.block b h.1⟩
theorem Kp.set {w1 : World} (h : Kp c w w1) {X o : Nat} {v : Value} (hX : w.heap.size ≤ X) (hH : X ≠ c.H) : Kp c w (w1.setCell ⟨X, o, none⟩ v) := fun b hb => by
  obtain ⟨⟨g1, g2, g3⟩, g4⟩ := h b hb
  have hne : X ≠ b := fun e => by have := hb.1; omega
  refine ⟨⟨by simp only [World.size_setCell]; exact g1, g2, fun V e => g3 V ?_⟩, ?_⟩
  · rw [World.cell?_setCell_far _ _ _ _ (by exact hH)] at e; exact e
  · rw [Below.heap_setCell _ _ _ _ (by exact fun e => hne e.symm)]; exact g4
theorem Rd.fresh (h : Rd c w j xs) {X : Nat} (hX : w.heap.size ≤ X) (hX' : X < w'.heap.size) (hb : Below w.heap.size w w') : Fr c w' X := by
  obtain ⟨_, _, _, _, _, V, h5, h6⟩ := h
  refine ⟨hX', fun e => by have := h5.1; omega, fun V' e => ?_⟩
  have e1 := (h5.on hb).c 1 rfl
  rw [e] at e1
  obtain rfl := Option.some.inj e1
  intro e2
  have := (h6.lt X e2).2
  omega
theorem Box.kp {X : Nat} {vs : List Value} (h : Box w X vs) (hf : Fr c w X) (hk : Kp c w w') : Box w' X vs :=
  ⟨(hk X hf).1.1, fun k v e => ⟨(hk.cells hf k).1.trans (h.2.1 k v e).1, (hk.cells hf k).2.trans (h.2.1 k v e).2⟩, fun k e => (hk.cells hf k).1.trans (h.2.2 k e)⟩
theorem own_kp {e size n base : Nat} {V : Value} {ys : List Value} (h : w.ownsRow base e size V n ys) (hf : ∀ g, V.ownBlock = some g → Fr c w g) (hk : Kp c w w') : w'.ownsRow base e size V n ys := by
  obtain ⟨h1, h2⟩ := h
  refine ⟨h1, ?_⟩
  rcases h2 with h2 | ⟨g, cap, cur, hv, hg, hh, r⟩
  · exact .inl h2
  · exact .inr ⟨g, cap, cur, hv, hg, by rw [(hk g (hf g (by rw [hv]; rfl))).2]; exact hh, r⟩
set_option maxHeartbeats 1600000 in
theorem skip_any (h : Rd c w j xs) (hj : j < c.ls.length) :
    Calls Tryz.prog 52 #[c.p] w fun e w' => e = .returned (.tuple #[]) ∧ Rd c w' (j + 1) xs ∧ Below c.H w w' ∧ Kp c w w' := by
  have HR := Lib.hid h
  have HJ := Lib.hid hj
  obtain ⟨o, n, cp, V, e1, e2, e3, hn, hcp, hb, t0, t1, t2⟩ := h.see
  obtain ⟨c0, c1⟩ := box2 hb
  obtain ⟨f0, f1⟩ := box2f hb
  have hsz := hb.1
  have hn1 : (1 : Int) ≤ (n : Int) := by omega
  have hc1 : ¬ cp = 1 := by omega
  have FIN : Hid (Rd c (w.setCell ⟨c.H, 0, none⟩ (.slice (some ⟨c.b, o + 3, none⟩) (n - 1) (cp - 1))) (j + 1) xs) := Lib.hid (by
    obtain ⟨h1, h2, h3, h4, h7, V', h5, h6⟩ := h
    refine ⟨h1, fun i hi => ?_, by omega, h4, h7, V', ?_, ownsRow_setCell_below h6 (Nat.lt_succ_self _) _⟩
    · have hf : ∀ q, (w.setCell ⟨c.H, 0, none⟩ (.slice (some ⟨c.b, o + 3, none⟩) (n - 1) (cp - 1))).cell? ⟨c.b, q, none⟩ = w.cell? ⟨c.b, q, none⟩ := fun q => World.cell?_setCell_far _ _ _ _ (by show c.H ≠ c.b; omega)
      rw [hf, hf, hf]; exact h2 i hi
    · have h8 := h5.set 0 (by simp) (.slice (some ⟨c.b, o + 3, none⟩) (n - 1) (cp - 1))
      rw [← e1, ← e2, ← e3] at h8 ⊢
      rw [show c.off + (j + 1) * 3 = c.off + j * 3 + 3 by omega, show c.ls.length + 1 - (j + 1) = c.ls.length + 1 - j - 1 by omega, show c.cap - (j + 1) = c.cap - j - 1 by omega]
      exact h8)
  have KP : Hid (Kp c w (w.setCell ⟨c.H, 0, none⟩ (.slice (some ⟨c.b, o + 3, none⟩) (n - 1) (cp - 1)))) := Lib.hid (fun b hb => by
    refine ⟨⟨by simp only [World.size_setCell]; exact hb.1, hb.2.1, fun V' e => hb.2.2 V' ?_⟩, Below.heap_setCell _ _ _ _ (by exact hb.2.1)⟩
    rw [World.cell?_setCell_other _ _ _ _ (by simp)] at e; exact e)
  clear h hj e1 e2 e3 hb HR
  unfold Rc.p
  go_enter Tryz.func52, Tryz.ntmps52
  go_wp2_with fail
  go_end0
  exact ⟨rfl, FIN.out, (Below.refl c.H w).setCell (Nat.le_refl c.H) _, KP.out⟩
set_option maxHeartbeats 1600000 in
theorem take_yes (h : Rd c w j xs) {u : ByteArray} (hu : u.data.toList ≠ []) (e : tx c.ls j = u.data.toList) :
    Calls Tryz.prog 54 #[c.p, .string u] w fun e w' => e = .returned (.bool true) ∧ Rd c w' (j + 1) xs ∧ Below c.H w w' ∧ Kp c w w' := by
  have HS := Lib.hid (skip_any h (PTree.tx_pos (by rw [e]; exact hu)))
  obtain ⟨o, n, cp, V, _, _, _, hn, _, hb, _, t1, _⟩ := h.see
  obtain ⟨c0, c1⟩ := box2 hb
  have hsz := hb.1
  have hz := World.block_lt_of_cell? w _ t1
  obtain ⟨tb, htb⟩ : ∃ b, ({ data := (tx c.ls j).toArray } : ByteArray) = b := ⟨_, rfl⟩
  have g : (tb.toList == u.toList) = true := by rw [beq_iff_eq, ByteArray.toList_eq, ByteArray.toList_eq, ← e, ← htb]
  rw [htb] at t1
  clear h hb htb e hu
  unfold Rc.p at HS ⊢
  go_enter Tryz.func54, Tryz.ntmps54
  go_wp2_with fail
  refine HS.out.mono ?_
  rintro _ w' ⟨rfl, r, b, k⟩
  have R := Lib.hid r; have B := Lib.hid b; have K := Lib.hid k
  clear r b k HS
  go_wp2_with fail
  go_ret
  exact ⟨rfl, R.out, B.out, K.out⟩
set_option maxHeartbeats 1600000 in
theorem take_no (h : Rd c w j xs) {u : ByteArray} (e : tx c.ls j ≠ u.data.toList) :
    Calls Tryz.prog 54 #[c.p, .string u] w fun e w' => e = .returned (.bool false) ∧ w = w' := by
  obtain ⟨o, n, cp, V, _, _, _, hn, _, hb, _, t1, _⟩ := h.see
  obtain ⟨c0, c1⟩ := box2 hb
  have hsz := hb.1
  have hz := World.block_lt_of_cell? w _ t1
  obtain ⟨tb, htb⟩ : ∃ b, ({ data := (tx c.ls j).toArray } : ByteArray) = b := ⟨_, rfl⟩
  have g : (tb.toList == u.toList) = false := by
    rw [beq_eq_false_iff_ne, ByteArray.toList_eq, ByteArray.toList_eq, ← htb]; exact e
  rw [htb] at t1
  clear h hb htb e
  unfold Rc.p
  go_enter Tryz.func54, Tryz.ntmps54
  go_wp2_with fail
  go_ret
  exact ⟨rfl, rfl⟩
set_option maxHeartbeats 3200000 in
theorem put_any (h : Rd c w j xs) (y : Ex) (hn : xs.length + 1 ≤ 100000) :
    Calls Tryz.prog 104 #[c.p, .agg (exC y).toArray] w fun e w' => e = .returned (.int .i64 xs.length) ∧ Rd c w' j (xs ++ [y]) ∧ Below c.H w w' ∧ Kp c w w' := by
  have HR := Lib.hid h
  obtain ⟨h1, h2, h3, h4, h7, V, hb, hown⟩ := h
  have HO := Lib.hid hown
  have XB := Lib.hid hb
  obtain ⟨VA, vc, rfl, _⟩ := own_slice hown
  obtain ⟨SL, hSL⟩ : ∃ v, Value.slice (some ⟨c.b, c.off + j * 3, none⟩) (c.ls.length + 1 - j) (c.cap - j) = v := ⟨_, rfl⟩
  rw [hSL] at XB
  have HSL := Lib.hid hSL
  clear hSL hown hb h1 h2 h3 h4 h7
  unfold exC Rc.p
  go_enter Tryz.func104, Tryz.ntmps104
  go_upto_region 1 with fail
  obtain ⟨w1, hw1⟩ : ∃ w1, w.alloc (.cells #[.string ⟨y.op.toArray⟩, .string ⟨y.name.toArray⟩, .int .i64 y.value, .int .i64 y.a, .int .i64 y.b, .int .i64 y.c] 58) = w1 := ⟨_, rfl⟩
  have b1 : Below w.heap.size w w1 := by rw [← hw1]; exact (Below.refl _ _).alloc (Nat.le_refl _) _
  have EB : Box w1 w.heap.size (exC y) := by rw [← hw1]; exact Box.new w 58 (exC y)
  have XB1 := Lib.hid (XB.out.on b1)
  have HO1 := Lib.hid (own_kept HO.out b1)
  have B1 : Hid (Below c.H w w1) := Lib.hid (b1.mono (Nat.le_of_lt XB.out.1))
  rw [hw1]
  have hlt : c.H + 1 ≤ w1.heap.size := Nat.le_trans XB.out.1 b1.size
  obtain ⟨X, hX⟩ : ∃ X, w.heap.size = X := ⟨_, rfl⟩
  rw [hX] at EB ⊢
  obtain ⟨e0, e1, e2, e3, e4, e5⟩ := box6 EB
  have hXs := EB.1
  obtain ⟨c0, c1⟩ := box2 XB1.out
  obtain ⟨f0, f1⟩ := box2f XB1.out
  have NB : Hid (∀ j u, (exR.C y)[j]? = some u → ((w1.alloc (.cells (exC y).toArray 58)).drew).cell? ⟨w1.heap.size, j, none⟩ = some u) := Lib.hid (fun j u hj => by
    show (w1.alloc (.cells (exC y).toArray 58)).cell? ⟨w1.heap.size, j, none⟩ = some u
    rw [World.cell?_alloc_at _ _ _ _ rfl]; simpa [exR] using hj)
  have b2 : Hid (Below c.H w1 ((w1.alloc (.cells (exC y).toArray 58)).drew)) := Lib.hid (((Below.refl c.H w1).alloc (Nat.le_of_lt hlt) _).drew)
  have HW := Lib.hid hw1
  have hnn : ((xs.length : Int) + 1) - 1 = (xs.length : Int) := by omega
  have FIN : Hid (∀ g cap w7, w7.ownsRow (c.H + 1) 58 6 (.slice (some ⟨g, 0, none⟩) (xs.length + 1) cap) (xs.length + 1) (exR.cells (xs ++ [y])) → ((w1.alloc (.cells (exC y).toArray 58)).drew).grownBy w7 (Value.slice VA xs.length vc).ownBlock → ((Value.slice VA xs.length vc).ownBlock = some g ∨ g = ((w1.alloc (.cells (exC y).toArray 58)).drew).heap.size) → Below (c.H + 1) ((w1.alloc (.cells (exC y).toArray 58)).drew) w7 → Rd c (w7.setCell ⟨c.H, 1, none⟩ (.slice (some ⟨g, 0, none⟩) (xs.length + 1) cap)) j (xs ++ [y]) ∧ Below c.H w (w7.setCell ⟨c.H, 1, none⟩ (.slice (some ⟨g, 0, none⟩) (xs.length + 1) cap)) ∧ Kp c w (w7.setCell ⟨c.H, 1, none⟩ (.slice (some ⟨g, 0, none⟩) (xs.length + 1) cap))) := Lib.hid (fun g cap w7 h7 hg hat k7 => by
    have hb7 : Below c.H w w7 := (B1.out.trans b2.out).trans (k7.mono (Nat.le_succ _))
    have hkp : Kp c w (w7.setCell ⟨c.H, 1, none⟩ (.slice (some ⟨g, 0, none⟩) (xs.length + 1) cap)) := fun b hb => by
      have hv := hb.2.2 _ (XB.out.c 1 rfl)
      have hs1 : w.heap.size ≤ w1.heap.size := b1.size
      have hbl : b < ((w1.alloc (.cells (exC y).toArray 58)).drew).heap.size := by
        show b < (w1.alloc (.cells (exC y).toArray 58)).heap.size
        have := hb.1; simp; omega
      have hbw : Below w.heap.size w ((w1.alloc (.cells (exC y).toArray 58)).drew) := b1.trans (((Below.refl w.heap.size w1).alloc hs1 _).drew)
      refine ⟨⟨by simp only [World.size_setCell]; exact Nat.lt_of_lt_of_le hbl hg.size, hb.2.1, fun V' e => ?_⟩, ?_⟩
      · obtain ⟨h3, _⟩ := hg.cell (a := ⟨c.H, 1, none⟩) (((XB1.out.alloc (.cells (exC y).toArray 58)).c 1 rfl)) (fun e => by have := (HO1.out.lt c.H e.symm).1; omega) |> fun h => (⟨h, trivial⟩ : _ ∧ True)
        rw [World.cell?_setCell_same _ _ _ h3] at e
        obtain rfl := Option.some.inj e
        intro e2
        have e3 : g = b := by simpa [Value.ownBlock] using e2
        rcases hat with h | h
        · rw [e3] at h; exact hv h
        · have h4 : ((w1.alloc (.cells (exC y).toArray 58)).drew).heap.size = w1.heap.size + 1 := by show (w1.alloc (.cells (exC y).toArray 58)).heap.size = _; simp
          have := hb.1; omega
      · rw [Below.heap_setCell _ _ _ _ (by exact hb.2.1), hg.block b hbl (fun e => hv e.symm)]
        exact hbw.block b hb.1
    refine ⟨?_, hb7.setCell (Nat.le_refl _) _, hkp⟩
    obtain ⟨h1, h2, h3, h4, h8, _⟩ := HR.out
    have h9 : c.T (w7.setCell ⟨c.H, 1, none⟩ (.slice (some ⟨g, 0, none⟩) (xs.length + 1) cap)) := h2.keep (hb7.setCell (Nat.le_refl _) _) h1
    refine ⟨h1, h9, h3, h4, h8, (.slice (some ⟨g, 0, none⟩) (xs.length + 1) cap), ?_, ?_⟩
    · have h11 : Box ((w1.alloc (.cells (exC y).toArray 58)).drew) c.H [SL, .slice VA xs.length vc] := XB1.out.alloc (.cells (exC y).toArray 58)
      have h10 := (h11.keep k7 (Nat.lt_succ_self _)).set 1 (by simp) (.slice (some ⟨g, 0, none⟩) (xs.length + 1) cap)
      rw [← HSL.out] at h10; exact h10
    · rw [List.length_append, List.length_singleton]; exact ownsRow_setCell_below h7 (Nat.lt_succ_self _) _)
  clear b1 EB hX XB HO hw1 HW B1 HR HSL b2
  have hlen : (xs.length : Int) ≤ 100000 := by omega
  have hlt2 : c.H < w1.heap.size := hlt
  have E7 : Hid (((w1.alloc (.cells (exC y).toArray 58)).drew).cell? ⟨c.H, 1, none⟩ = some (.slice VA xs.length vc) ∧ ((w1.alloc (.cells (exC y).toArray 58)).drew).frozen? ⟨c.H, 1, none⟩ = false) := Lib.hid ⟨(XB1.out.alloc (.cells (exC y).toArray 58)).c 1 rfl, (XB1.out.alloc (.cells (exC y).toArray 58)).f 1 (v := .slice VA xs.length vc) rfl⟩
  go_region_law (first
    | (refine step_append_rec tree_exTy _ (by rfl) _ _ (by rfl) (c.H + 1) (.slice VA xs.length vc) xs.length xs y (by rfl) (HO1.out.alloc _) _ (by rfl) NB.out hn (by simp; omega) ?_; intro g cap w7 hown7 hg7 hat7 hb7; have e7 : w7.cell? ⟨c.H, 1, none⟩ = some (.slice VA xs.length vc) := (hb7.cell (p := ⟨c.H, 1, none⟩) (Nat.lt_succ_self _)).trans E7.out.1; have f7 : w7.frozen? ⟨c.H, 1, none⟩ = false := (hb7.frozen (p := ⟨c.H, 1, none⟩) (Nat.lt_succ_self _)).trans E7.out.2))
  all_goals
    have FF := Lib.hid (FIN.out g cap w7 hown7 hg7 hat7 hb7)
    have hs7 := World.block_lt_of_cell? w7 _ e7
    clear hown7 hb7 hg7 hat7
    go_wp2_with fail
    go_ret
    exact ⟨rfl, FF.out⟩
end Go.Proofs.YtdkcdgjpcojdfaaGreatDoor
