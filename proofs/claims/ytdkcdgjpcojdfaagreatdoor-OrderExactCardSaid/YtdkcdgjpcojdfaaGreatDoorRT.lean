/-
  The document's table of kinds, by rows, says what kindBy says. Plain facts; no program is named here.
  What the document's answer of layer 10 says: the table of an operation of two parts, in memory.
  The first binding of a name, found place by place.
  What the document's answer of layer 10 says: where a name is bound first.
  What the document's answer of layer 10 says: the kind of one expression, by the kinds of its parts.
  What the document's answer of layer 10 says: the kind of any expression of any program, or the error, and where.
-/
import Derived.Test.YtdkcdgjpcojdfaaGreatDoorMC
import Derived.Test.YtdkcdgjpcojdfaaGreatDoorCP
import Derived.Test.YtdkcdgjpcojdfaaGreatDoorCM
import Derived.Test.YtdkcdgjpcojdfaaGreatDoorRM

namespace PCheck
def tableL (op : List UInt8) : List (List Int) :=
  if op = [43] ∨ op = [45] then [[1, 1, 1], [3, 3, 3]]
  else if op = [42] then [[3, 3, 3], [1, 3, 1], [3, 1, 1], [1, 2, 1], [2, 1, 1]]
  else if op = [109, 105, 110] ∨ op = [109, 97, 120] then [[1, 1, 1], [2, 2, 2], [3, 3, 3]]
  else if op = [61] ∨ op = [60, 62] then [[1, 1, 4], [2, 2, 4], [3, 3, 4], [4, 4, 4]]
  else if op = [60] ∨ op = [60, 61] ∨ op = [62] ∨ op = [62, 61] then [[1, 1, 4], [2, 2, 4], [3, 3, 4]]
  else []
def findRow (a b : Int) : List (List Int) → Int
  | [] => 0
  | row :: t => if row.getD 0 0 = a ∧ row.getD 1 0 = b then row.getD 2 0 else findRow a b t
def twoL : List (List UInt8) := [[43], [45], [42], [60], [60, 61], [61], [60, 62], [62], [62, 61], [109, 105, 110], [109, 97, 120]]
theorem table_known : ∀ op ∈ twoL, ∀ a ∈ ([0, 1, 2, 3, 4] : List Int), ∀ b ∈ ([0, 1, 2, 3, 4] : List Int), findRow a b (tableL op) = kindBy op a b 0 := by decide +kernel
theorem kindBy_none {op : List UInt8} (h : op ∉ twoL) (h1 : op ≠ wholeS) (h2 : op ≠ amountS) (h3 : op ≠ rateS) (h4 : op ≠ negS) (h5 : op ≠ ifS) (a b c : Int) : kindBy op a b c = 0 ∧ tableL op = [] := by
  simp only [twoL, List.mem_cons, List.not_mem_nil, or_false, not_or] at h
  obtain ⟨n1, n2, n3, n4, n5, n6, n7, n8, n9, n10, n11⟩ := h
  unfold kindBy tableL
  rw [if_neg h1, if_neg h2, if_neg h3, if_neg h4, if_neg (by rintro (h | h); exact n1 h; exact n2 h), if_neg n3, if_neg (by rintro (h | h | h | h); exact n4 h; exact n5 h; exact n8 h; exact n9 h), if_neg (by rintro (h | h); exact n6 h; exact n7 h), if_neg (by rintro (h | h); exact n10 h; exact n11 h), if_neg h5,
    if_neg (by rintro (h | h); exact n1 h; exact n2 h), if_neg n3, if_neg (by rintro (h | h); exact n10 h; exact n11 h), if_neg (by rintro (h | h); exact n6 h; exact n7 h), if_neg (by rintro (h | h | h | h); exact n4 h; exact n5 h; exact n8 h; exact n9 h)]
  exact ⟨rfl, rfl⟩
theorem four_mem {k : Int} (h : Four k) : k ∈ ([0, 1, 2, 3, 4] : List Int) := by rcases h with h | h | h | h | h <;> rw [h] <;> decide
theorem table_kind {op : List UInt8} {a b : Int} (ha : Four a) (hb : Four b) (h1 : op ≠ wholeS) (h2 : op ≠ amountS) (h3 : op ≠ rateS) (h4 : op ≠ negS) (h5 : op ≠ ifS) : findRow a b (tableL op) = kindBy op a b 0 := by
  by_cases h : op ∈ twoL
  · exact table_known op h a (four_mem ha) b (four_mem hb)
  · obtain ⟨e1, e2⟩ := kindBy_none h h1 h2 h3 h4 h5 a b 0
    rw [e1, e2]; rfl
end PCheck

namespace Go.Proofs.YtdkcdgjpcojdfaaGreatDoor
open Go.RowKit

def TbI (w : World) (A : Option Addr) (rows : List (List Int)) : Prop := rows = [] ∨ ∃ b, A = some ⟨b, 0, none⟩ ∧ ∀ i row, rows[i]? = some row → ∃ g c, w.cell? ⟨b, i, none⟩ = some (.slice (some ⟨g, 0, none⟩) 3 c) ∧ ∀ j z, row[j]? = some z → w.cell? ⟨g, j, none⟩ = some (.int .i64 z)
def lay10 (t : TypeId) : World → List (List Int) → World
  | w, [] => w
  | w, r :: rs => lay10 t (w.alloc (.cells (r.map fun z => Value.int .i64 z).toArray t)) rs
theorem lay10_below (t : TypeId) : ∀ (rs : List (List Int)) (w : World), Below w.heap.size w (lay10 t w rs)
  | [], _ => Below.refl _ _
  | _ :: rs, _ => below_step ((Below.refl _ _).alloc (Nat.le_refl _) _) (lay10_below t rs _)
theorem lay10_size (t : TypeId) : ∀ (rs : List (List Int)) (w : World), (lay10 t w rs).heap.size = w.heap.size + rs.length
  | [], _ => rfl
  | _ :: rs, w => by
    show (lay10 t _ rs).heap.size = _
    rw [lay10_size t rs]; simp; omega
theorem lay10_cell (t : TypeId) : ∀ (rs : List (List Int)) (w : World) (i : Nat) (row : List Int), rs[i]? = some row → ∀ j z, row[j]? = some z → (lay10 t w rs).cell? ⟨w.heap.size + i, j, none⟩ = some (.int .i64 z)
  | [], _, _, _, h => by cases h
  | r :: rs, w, 0, row, h => fun j z hz => by
    obtain rfl : r = row := by simpa using h
    have h1 : (w.alloc (.cells (r.map fun z => Value.int .i64 z).toArray t)).cell? ⟨w.heap.size, j, none⟩ = some (.int .i64 z) := (Box.new w t (r.map fun z => Value.int .i64 z)).c j (by simp [hz])
    exact ((lay10_below t rs _).cell (World.block_lt_of_cell? _ _ h1)).trans h1
  | r :: rs, w, i + 1, row, h => fun j z hz => by
    have ih := lay10_cell t rs (w.alloc (.cells (r.map fun z => Value.int .i64 z).toArray t)) i row (by simpa using h) j z hz
    have e : (w.alloc (.cells (r.map fun z => Value.int .i64 z).toArray t)).heap.size + i = w.heap.size + (i + 1) := by simp; omega
    rw [e] at ih
    exact ih
theorem tb_lay (w : World) (t t2 : TypeId) (rs : List (List Int)) {H : Nat} (hH : H = w.heap.size + rs.length) :
    TbI ((lay10 t w rs).alloc (.cells ((List.range rs.length).map fun i => Value.slice (some ⟨w.heap.size + i, 0, none⟩) 3 3).toArray t2)) (some ⟨H, 0, none⟩) rs ∧ Below w.heap.size w ((lay10 t w rs).alloc (.cells ((List.range rs.length).map fun i => Value.slice (some ⟨w.heap.size + i, 0, none⟩) 3 3).toArray t2)) := by
  subst hH
  have hb := lay10_below t rs w
  refine ⟨.inr ⟨_, rfl, fun i row h => ?_⟩, hb.alloc hb.size _⟩
  have hi : i < rs.length := (List.getElem?_eq_some_iff.1 h).1
  refine ⟨w.heap.size + i, 3, ?_, fun j z hz => ?_⟩
  · have h0 := (Box.new (lay10 t w rs) t2 ((List.range rs.length).map fun i => Value.slice (some ⟨w.heap.size + i, 0, none⟩) 3 3)).c i (v := .slice (some ⟨w.heap.size + i, 0, none⟩) 3 3) (by simp [hi])
    rw [lay10_size] at h0
    exact h0
  · have h1 := lay10_cell t rs w i row h j z hz
    exact (((Below.refl (lay10 t w rs).heap.size _).alloc (Nat.le_refl _) _).cell (World.block_lt_of_cell? _ _ h1)).trans h1
theorem table_three (op : List UInt8) : ∀ row ∈ PCheck.tableL op, ∃ p q r, row = [p, q, r] := by
  have h : ∀ (l : List (List Int)), (∀ row ∈ l, row.length = 3) → ∀ row ∈ l, ∃ p q r, row = [p, q, r] := fun l hl row hr => by
    have h3 := hl row hr
    match row, h3 with
    | [p, q, r], _ => exact ⟨p, q, r, rfl⟩
  apply h
  unfold PCheck.tableL
  (repeat' split) <;> decide
theorem table_few (op : List UInt8) : (PCheck.tableL op).length ≤ 5 := by
  unfold PCheck.tableL
  (repeat' split) <;> decide
set_option maxHeartbeats 6400000 in
set_option maxRecDepth 100000 in
theorem rtable_any (op : List UInt8) (w : World) : Calls Tryz.prog 95 #[.string ⟨op.toArray⟩] w fun e w' => ∃ A c, e = .returned (.slice A (PCheck.tableL op).length c) ∧ TbI w' A (PCheck.tableL op) ∧ Below w.heap.size w w' := by
  by_cases hop : op ∈ PCheck.twoL
  · simp only [PCheck.twoL, List.mem_cons, List.not_mem_nil, or_false] at hop
    rcases hop with rfl | rfl | rfl | rfl | rfl | rfl | rfl | rfl | rfl | rfl | rfl
    all_goals
      go_enter Tryz.func95, Tryz.ntmps95
      go_wp2_with fail
      go_ret
      first
        | exact ⟨_, _, rfl, tb_lay w 3 36 [[1, 1, 1], [3, 3, 3]] rfl⟩
        | exact ⟨_, _, rfl, tb_lay w 3 36 [[3, 3, 3], [1, 3, 1], [3, 1, 1], [1, 2, 1], [2, 1, 1]] rfl⟩
        | exact ⟨_, _, rfl, tb_lay w 3 36 [[1, 1, 1], [2, 2, 2], [3, 3, 3]] rfl⟩
        | exact ⟨_, _, rfl, tb_lay w 3 36 [[1, 1, 4], [2, 2, 4], [3, 3, 4], [4, 4, 4]] rfl⟩
        | exact ⟨_, _, rfl, tb_lay w 3 36 [[1, 1, 4], [2, 2, 4], [3, 3, 4]] rfl⟩
  · have e1 := kb_ne hop (s := [43]) (by decide); have e2 := kb_ne hop (s := [45]) (by decide); have e3 := kb_ne hop (s := [42]) (by decide); have e4 := kb_ne hop (s := [60]) (by decide)
    have e5 := kb_ne hop (s := [60, 61]) (by decide); have e6 := kb_ne hop (s := [61]) (by decide); have e7 := kb_ne hop (s := [60, 62]) (by decide); have e8 := kb_ne hop (s := [62]) (by decide)
    have e9 := kb_ne hop (s := [62, 61]) (by decide); have e10 := kb_ne hop (s := [109, 105, 110]) (by decide); have e11 := kb_ne hop (s := [109, 97, 120]) (by decide)
    have HT : Hid (PCheck.tableL op = []) := Lib.hid (by
      simp only [PCheck.twoL, List.mem_cons, List.not_mem_nil, or_false, not_or] at hop
      obtain ⟨n1, n2, n3, n4, n5, n6, n7, n8, n9, n10, n11⟩ := hop
      unfold PCheck.tableL
      rw [if_neg (by rintro (h | h); exact n1 h; exact n2 h), if_neg n3, if_neg (by rintro (h | h); exact n10 h; exact n11 h), if_neg (by rintro (h | h); exact n6 h; exact n7 h), if_neg (by rintro (h | h | h | h); exact n4 h; exact n5 h; exact n8 h; exact n9 h)])
    clear hop
    go_enter Tryz.func95, Tryz.ntmps95
    go_wp2_with fail
    go_ret
    rw [HT.out]
    exact ⟨none, 0, rfl, .inl rfl, Below.refl _ _⟩
end Go.Proofs.YtdkcdgjpcojdfaaGreatDoor

namespace Go.Proofs.YtdkcdgjpcojdfaaGreatDoor
open Go.RowKit
open PCheck (Xp Bd bound)

theorem bound_at {l : List Bd} {k : Nat} (hk : k < l.length) {n : List UInt8} (h0 : bound (l.take k) n = none) (h : l[k].name = n) : bound l n = some (PCheck.oneOf l[k].kind [1, 2, 3, 4]) := by
  have e1 : bound (l.take (k + 1)) n = some (PCheck.oneOf l[k].kind [1, 2, 3, 4]) := by
    rw [List.take_succ_eq_append_getElem hk, bound_snoc, h0]
    simp only []
    rw [if_pos h]
  have e2 := PCheck.bound_more (l.drop (k + 1)) e1
  rw [List.take_append_drop] at e2
  exact e2
theorem bound_miss {l : List Bd} {k : Nat} (hk : k < l.length) {n : List UInt8} (h0 : bound (l.take k) n = none) (h : l[k].name ≠ n) : bound (l.take (k + 1)) n = none := by
  rw [List.take_succ_eq_append_getElem hk, bound_snoc, h0]
  simp only []
  rw [if_neg h]
theorem oneOf_in {k : Int} (h1 : ¬ k < 1) (h2 : ¬ 4 < k) : PCheck.oneOf k [1, 2, 3, 4] = k := by
  unfold PCheck.oneOf
  rw [if_pos]
  simp only [List.mem_cons, List.not_mem_nil, or_false]
  omega
theorem oneOf_out {k : Int} (h : k < 1 ∨ 4 < k) : PCheck.oneOf k [1, 2, 3, 4] = 0 := by
  unfold PCheck.oneOf
  rw [if_neg]
  simp only [List.mem_cons, List.not_mem_nil, or_false]
  omega
end Go.Proofs.YtdkcdgjpcojdfaaGreatDoor

namespace Go.Proofs.YtdkcdgjpcojdfaaGreatDoor
open Go.RowKit
open PCheck (Bd bound)

def FindP (l : List Bd) (n : List UInt8) (z : Int) : Prop := (z = -1 ∧ bound l n = none) ∨ ∃ i : Nat, ∃ h : i < l.length, z = i ∧ bound l n = some (PCheck.oneOf (l[i]'h).kind [1, 2, 3, 4])
set_option maxHeartbeats 3200000 in
set_option maxRecDepth 100000 in
theorem rfind_any {w : World} {A : Option Addr} {n c : Nat} {l : List Bd} {s : List UInt8} (hl : SlX bdR w A n l) (hn : n ≤ 1000) :
    Calls Tryz.prog 68 #[.slice A n c, .string ⟨s.toArray⟩] w fun e w' => ∃ z, e = .returned (.int .i64 z) ∧ FindP l s z ∧ Below w.heap.size w w' := by
  have HL := Lib.hid hl
  have hll : l.length = n := hl.1
  clear hl
  go_enter Tryz.func68, Tryz.ntmps68
  go_wp2_with fail
  go_loopw [5] (fun q wx => ∃ k : Nat, k ≤ n ∧ q = .int .i64 k ∧ Hid (bound (l.take k) s = none) ∧ w = wx) (fun q _ => n - (intOf q).toNat)
  case atStart => exact ⟨0, Nat.zero_le _, rfl, Lib.hid rfl, rfl⟩
  case round =>
    obtain ⟨k, hk, rfl, I1, rfl⟩ := hrel
    by_cases hkn : k < n
    · have gk : (k : Int) < (n : Int) := by omega
      have hkl : k < l.length := by omega
      obtain ⟨⟨nm, kd⟩, hb⟩ : ∃ b : Bd, l[k] = b := ⟨_, rfl⟩
      obtain ⟨b, off, rfl, hc⟩ := HL.out.at hkn
      have hd := hc k hkl
      rw [hb] at hd
      have c0 : w.cell? ⟨b, off + k * 2, none⟩ = some (.string ⟨nm.toArray⟩) := by simpa [bdR] using hd 0 _ rfl
      have hsb := World.block_lt_of_cell? w _ c0
      clear hd hc
      by_cases hns : nm = s
      · have hbd := bound_at hkl I1.out (by rw [hb]; exact hns)
        have FIN : Hid (FindP l s k) := Lib.hid (.inr ⟨k, hkl, rfl, hbd⟩)
        subst hns
        clear hbd hb I1
        go_wp2_with fail
        go_ret
        exact ⟨_, rfl, FIN.out, Below.refl _ _⟩
      · have hne : (nm == s) = false := by rw [beq_eq_false_iff_ne]; exact hns
        have FIN : Hid (bound (l.take (k + 1)) s = none) := Lib.hid (bound_miss hkl I1.out (by rw [hb]; exact hns))
        clear hb I1 hns
        go_wp2_with fail
        exact ⟨⟨k + 1, by omega, by congr 1, FIN, trivial⟩, by simp [intOf]; omega⟩
    · obtain rfl : k = n := by omega
      have hbd : bound l s = none := by have h := I1.out; rw [List.take_of_length_le (by omega)] at h; exact h
      have FIN : Hid (FindP l s (-1)) := Lib.hid (.inl ⟨rfl, hbd⟩)
      clear hbd I1
      go_wp2_with fail
      go_ret
      exact ⟨_, rfl, FIN.out, Below.refl _ _⟩
end Go.Proofs.YtdkcdgjpcojdfaaGreatDoor

namespace Go.Proofs.YtdkcdgjpcojdfaaGreatDoor
open Go.RowKit
open PCheck (Xp Bd bound Four kindBy tableL findRow)

def ofK (l : List Bd) (x : Xp) (a b c : Int) : Int := if x.op = PCheck.nameS then (match bound l x.name with | none => 0 | some k => k) else kindBy x.op a b c
theorem ofK_none {l : List Bd} {x : Xp} {a b c : Int} (h : x.op = PCheck.nameS) (hb : bound l x.name = none) : ofK l x a b c = 0 := by unfold ofK; rw [if_pos h, hb]
theorem ofK_name {l : List Bd} {x : Xp} {a b c k : Int} (h : x.op = PCheck.nameS) (hb : bound l x.name = some k) : ofK l x a b c = k := by unfold ofK; rw [if_pos h, hb]
theorem ofK_other {l : List Bd} {x : Xp} {a b c : Int} (h : x.op ≠ PCheck.nameS) : ofK l x a b c = kindBy x.op a b c := by unfold ofK; rw [if_neg h]
theorem kb_neg (a b c : Int) : kindBy PCheck.negS a b c = if a = 1 ∨ a = 3 then a else 0 := by
  show PCheck.oneOf a [1, 3] = _
  unfold PCheck.oneOf
  by_cases h : a = 1 ∨ a = 3
  · rw [if_pos h, if_pos (by simpa using h)]
  · rw [if_neg h, if_neg (by simpa using h)]
theorem kb_if (a b c : Int) : kindBy PCheck.ifS a b c = if a = 4 ∧ b = c then b else 0 := by
  show (if a = 4 then PCheck.common b c else 0) = _
  unfold PCheck.common
  by_cases h : a = 4
  · rw [if_pos h]
    by_cases h2 : b = c
    · rw [if_pos h2, if_pos ⟨h, h2⟩]
    · rw [if_neg h2, if_neg (fun e => h2 e.2)]
  · rw [if_neg h, if_neg (fun e => h e.1)]
theorem kb_two {op : List UInt8} {a b c : Int} (h5 : op ≠ PCheck.ifS) : kindBy op a b c = kindBy op a b 0 := by
  unfold kindBy
  simp only [if_neg h5]
def IntAns (z : Int) (w : World) (e : Ending) (w' : World) : Prop := e = .returned (.int .i64 z) ∧ Below w.heap.size w w'
set_option maxHeartbeats 6400000 in
set_option maxRecDepth 100000 in
theorem rof_any {w : World} {LA : Option Addr} {ln lc : Nat} {l : List Bd} {x : Xp} {a b c : Int} (hL : SlX bdR w LA ln l) (hl : ln ≤ 1000) (ha : Four a) (hb : Four b) :
    Calls Tryz.prog 67 #[.agg (xpC x).toArray, .int .i64 a, .int .i64 b, .int .i64 c, .slice LA ln lc] w (IntAns (ofK l x a b c) w) := by
  obtain ⟨F, hF⟩ : ∃ F, ofK l x a b c = F := ⟨_, rfl⟩
  rw [hF]
  obtain ⟨Q, hQ⟩ : ∃ Q, IntAns F w = Q := ⟨_, rfl⟩
  rw [hQ]
  have HQ := Lib.hid hQ
  have hll : l.length = ln := hL.1
  obtain ⟨op, nm, vl, ya, yb, yc⟩ := x
  obtain ⟨w1, hw1, XB, b1⟩ : ∃ w1, w.alloc (.cells #[.string ⟨op.toArray⟩, .string ⟨nm.toArray⟩, .int .i64 vl, .int .i64 ya, .int .i64 yb, .int .i64 yc] 104) = w1 ∧ Box w1 w.heap.size [.string ⟨op.toArray⟩, .string ⟨nm.toArray⟩, .int .i64 vl, .int .i64 ya, .int .i64 yb, .int .i64 yc] ∧ Below w.heap.size w w1 := ⟨_, rfl, Box.new _ _ [.string ⟨op.toArray⟩, .string ⟨nm.toArray⟩, .int .i64 vl, .int .i64 ya, .int .i64 yb, .int .i64 yc], (Below.refl _ _).alloc (Nat.le_refl _) _⟩
  have HW1 := Lib.hid hw1; have B1 := Lib.hid b1
  have L1 := hL.on b1
  have HL1 := Lib.hid L1
  obtain ⟨x0, x1, x2, x3, x4, x5⟩ := box6 XB
  have hsx := XB.1
  clear hw1 b1 XB hL hQ x2 x3 x4 x5
  unfold xpC
  by_cases h6 : op ∈ [PCheck.wholeS, PCheck.amountS, PCheck.rateS, PCheck.nameS, PCheck.negS, PCheck.ifS]
  · simp only [PCheck.wholeS, PCheck.amountS, PCheck.rateS, PCheck.nameS, PCheck.negS, PCheck.ifS, List.mem_cons, List.not_mem_nil, or_false] at h6
    rcases h6 with rfl | rfl | rfl | rfl | rfl | rfl
    · have HF : Hid ((3 : Int) = F) := Lib.hid (by rw [← hF]; rfl)
      clear hF L1 x1
      go_enter Tryz.func67, Tryz.ntmps67
      go_upto_region 1 with fail
      rw [HW1.out]
      go_wp2_with fail
      rw [← HQ.out, ← HF.out]
      exact ⟨rfl, B1.out⟩
    · have HF : Hid ((1 : Int) = F) := Lib.hid (by rw [← hF]; rfl)
      clear hF L1 x1
      go_enter Tryz.func67, Tryz.ntmps67
      go_upto_region 1 with fail
      rw [HW1.out]
      go_wp2_with fail
      rw [← HQ.out, ← HF.out]
      exact ⟨rfl, B1.out⟩
    · have HF : Hid ((2 : Int) = F) := Lib.hid (by rw [← hF]; rfl)
      clear hF L1 x1
      go_enter Tryz.func67, Tryz.ntmps67
      go_upto_region 1 with fail
      rw [HW1.out]
      go_wp2_with fail
      rw [← HQ.out, ← HF.out]
      exact ⟨rfl, B1.out⟩
    · have FD := Lib.hid (rfind_any (c := lc) (s := nm) L1 hl)
      have hn : Hid (bound l nm = none → (0 : Int) = F) := Lib.hid (fun hb => (ofK_none rfl hb).symm.trans hF)
      have hk : Hid (∀ k, bound l nm = some k → k = F) := Lib.hid (fun k hb => (ofK_name rfl hb).symm.trans hF)
      clear hF L1
      go_enter Tryz.func67, Tryz.ntmps67
      go_upto_region 1 with fail
      rw [HW1.out]
      go_wp2_with fail
      refine (FD.out).mono ?_
      rintro _ w2 ⟨z, rfl, hz, b2⟩
      have B2 := Lib.hid (below_step B1.out b2)
      have L2 := HL1.out.on b2
      clear x0 x1 hsx b2 FD HL1
      rcases hz with ⟨rfl, hb⟩ | ⟨i, hi, rfl, hb⟩
      · have HF := Lib.hid (hn.out hb)
        clear hn hk hb L2
        go_wp2_with fail
        rw [← HQ.out, ← HF.out]
        exact ⟨rfl, B2.out⟩
      · have hin : i < ln := by omega
        have gi : (i : Int) < (ln : Int) := by omega
        have g0 : ¬ (i : Int) < 0 := by omega
        obtain ⟨⟨nk, kd⟩, hbd⟩ : ∃ b : Bd, l[i] = b := ⟨_, rfl⟩
        obtain ⟨b, off, rfl, hc⟩ := L2.at hin
        have hd := hc i hi
        rw [hbd] at hd hb
        have c1 : w2.cell? ⟨b, off + i * 2 + 1, none⟩ = some (.int .i64 kd) := hd 1 _ rfl
        have hsb := World.block_lt_of_cell? w2 _ c1
        clear hd hc L2 hn hbd
        by_cases hlo : kd < 1
        · have HF : Hid ((0 : Int) = F) := Lib.hid (by rw [← hk.out _ hb]; exact (oneOf_out (.inl hlo)).symm)
          clear hk hb
          go_wp2_with fail
          rw [← HQ.out, ← HF.out]
          exact ⟨rfl, B2.out⟩
        · by_cases hhi : 4 < kd
          · have HF : Hid ((0 : Int) = F) := Lib.hid (by rw [← hk.out _ hb]; exact (oneOf_out (.inr hhi)).symm)
            clear hk hb
            go_wp2_with fail
            rw [← HQ.out, ← HF.out]
            exact ⟨rfl, B2.out⟩
          · have HF : Hid (kd = F) := Lib.hid (by rw [← hk.out _ hb]; exact (oneOf_in hlo hhi).symm)
            clear hk hb
            go_wp2_with fail
            rw [← HQ.out, ← HF.out]
            exact ⟨rfl, B2.out⟩
    · have hF := (kb_neg a b c).symm.trans hF
      clear L1 x1
      by_cases a1 : a = 1
      · subst a1
        have HF : Hid ((1 : Int) = F) := Lib.hid hF
        clear hF ha
        go_enter Tryz.func67, Tryz.ntmps67
        go_upto_region 1 with fail
        rw [HW1.out]
        go_wp2_with fail
        rw [← HQ.out, ← HF.out]
        exact ⟨rfl, B1.out⟩
      by_cases a3 : a = 3
      · subst a3
        have HF : Hid ((3 : Int) = F) := Lib.hid hF
        clear hF ha a1
        go_enter Tryz.func67, Tryz.ntmps67
        go_upto_region 1 with fail
        rw [HW1.out]
        go_wp2_with fail
        rw [← HQ.out, ← HF.out]
        exact ⟨rfl, B1.out⟩
      · have HF : Hid ((0 : Int) = F) := Lib.hid (by rw [if_neg (by rintro (h | h); exact a1 h; exact a3 h)] at hF; exact hF)
        have e1 : (a == 1) = false := by rw [beq_eq_false_iff_ne]; exact a1
        have e3 : (a == 3) = false := by rw [beq_eq_false_iff_ne]; exact a3
        clear hF ha a1 a3
        go_enter Tryz.func67, Tryz.ntmps67
        go_upto_region 1 with fail
        rw [HW1.out]
        go_wp2_with fail
        rw [← HQ.out, ← HF.out]
        exact ⟨rfl, B1.out⟩
    · have hF := (kb_if a b c).symm.trans hF
      clear L1 x1
      by_cases a4 : a = 4
      · subst a4
        by_cases hbc : b = c
        · subst hbc
          have HF : Hid (b = F) := Lib.hid (by rw [if_pos ⟨rfl, rfl⟩] at hF; exact hF)
          clear hF ha hb
          go_enter Tryz.func67, Tryz.ntmps67
          go_upto_region 1 with fail
          rw [HW1.out]
          go_wp2_with fail
          rw [← HQ.out, ← HF.out]
          exact ⟨rfl, B1.out⟩
        · have HF : Hid ((0 : Int) = F) := Lib.hid (by rw [if_neg (fun e => hbc e.2)] at hF; exact hF)
          have e1 : (b == c) = false := by rw [beq_eq_false_iff_ne]; exact hbc
          clear hF ha hb hbc
          go_enter Tryz.func67, Tryz.ntmps67
          go_upto_region 1 with fail
          rw [HW1.out]
          go_wp2_with fail
          rw [← HQ.out, ← HF.out]
          exact ⟨rfl, B1.out⟩
      · have HF : Hid ((0 : Int) = F) := Lib.hid (by rw [if_neg (fun e => a4 e.1)] at hF; exact hF)
        have e1 : (a == 4) = false := by rw [beq_eq_false_iff_ne]; exact a4
        clear hF ha hb a4
        go_enter Tryz.func67, Tryz.ntmps67
        go_upto_region 1 with fail
        rw [HW1.out]
        go_wp2_with fail
        rw [← HQ.out, ← HF.out]
        exact ⟨rfl, B1.out⟩
  · have e1 := kb_ne h6 (s := [119, 104, 111, 108, 101]) (by decide); have e2 := kb_ne h6 (s := [97, 109, 111, 117, 110, 116]) (by decide); have e3 := kb_ne h6 (s := [114, 97, 116, 101]) (by decide); have e4 := kb_ne h6 (s := [110, 97, 109, 101]) (by decide)
    have e5 := kb_ne h6 (s := [110, 101, 103]) (by decide); have e6 := kb_ne h6 (s := [105, 102]) (by decide)
    have HF : Hid (findRow a b (tableL op) = F) := Lib.hid (by
      simp only [List.mem_cons, List.not_mem_nil, or_false, not_or] at h6
      obtain ⟨n1, n2, n3, n4, n5, n6⟩ := h6
      rw [PCheck.table_kind ha hb n1 n2 n3 n5 n6, ← hF, ofK_other n4]
      exact (kb_two n6).symm)
    have TT := Lib.hid (table_three op); have TF := table_few op
    have TA := Lib.hid (rtable_any op w1)
    obtain ⟨rows, hrows⟩ : ∃ rows, tableL op = rows := ⟨_, rfl⟩
    rw [hrows] at HF TT TF TA
    have gr : (rows.length : Int) ≤ 5 := by omega
    clear h6 hF ha hb L1 x1 hrows
    go_enter Tryz.func67, Tryz.ntmps67
    go_upto_region 1 with fail
    rw [HW1.out]
    go_wp2_with fail
    refine (TA.out).mono ?_
    rintro _ w2 ⟨T, tc, rfl, ht, b2⟩
    have B2 := Lib.hid (below_step B1.out b2)
    have HT := Lib.hid ht
    clear b2 ht TA x0 hsx HW1 HL1 e1 e2 e3 e4 e5 e6
    go_wp2_with fail
    go_loopw [74] (fun q wx => ∃ k : Nat, k ≤ rows.length ∧ q = .int .i64 k ∧ Hid (findRow a b (rows.drop k) = F) ∧ w2 = wx) (fun q _ => rows.length - (intOf q).toNat)
    case atStart => exact ⟨0, Nat.zero_le _, rfl, HF, rfl⟩
    case round =>
      obtain ⟨k, hk, rfl, I1, rfl⟩ := hrel
      by_cases hkn : k < rows.length
      · have gk : (k : Int) < (rows.length : Int) := by omega
        obtain ⟨p, q, r, hrow⟩ := TT.out rows[k] (List.getElem_mem hkn)
        have hr : rows[k]? = some [p, q, r] := by rw [List.getElem?_eq_getElem hkn, hrow]
        have hdr : rows.drop k = [p, q, r] :: rows.drop (k + 1) := by rw [List.drop_eq_getElem_cons hkn, hrow]
        obtain ⟨tb, rfl, htb⟩ : ∃ b, T = some ⟨b, 0, none⟩ ∧ ∀ i row, rows[i]? = some row → ∃ g c, w2.cell? ⟨b, i, none⟩ = some (.slice (some ⟨g, 0, none⟩) 3 c) ∧ ∀ j z, row[j]? = some z → w2.cell? ⟨g, j, none⟩ = some (.int .i64 z) := by
          rcases HT.out with h | h
          · rw [h] at hkn; cases hkn
          · exact h
        obtain ⟨g, gc, ct, hg⟩ := htb k _ hr
        have d0 : w2.cell? ⟨g, 0, none⟩ = some (.int .i64 p) := hg 0 p rfl
        have d1 : w2.cell? ⟨g, 1, none⟩ = some (.int .i64 q) := hg 1 q rfl
        have d2 : w2.cell? ⟨g, 2, none⟩ = some (.int .i64 r) := hg 2 r rfl
        have s1 := World.block_lt_of_cell? w2 _ ct
        have s2 := World.block_lt_of_cell? w2 _ d0
        have step : findRow a b (rows.drop k) = if p = a ∧ q = b then r else findRow a b (rows.drop (k + 1)) := by rw [hdr]; rfl
        have I1 := step.symm.trans I1.out
        clear hr hdr htb hg hrow step
        by_cases hpa : p = a
        · have f1 : (p == a) = true := by rw [beq_iff_eq]; exact hpa
          by_cases hqb : q = b
          · have f2 : (q == b) = true := by rw [beq_iff_eq]; exact hqb
            have FIN : Hid (r = F) := Lib.hid (by rw [if_pos ⟨hpa, hqb⟩] at I1; exact I1)
            clear I1 hpa hqb
            go_wp2_with fail
            rw [← HQ.out, ← FIN.out]
            exact ⟨rfl, B2.out⟩
          · have f2 : (q == b) = false := by rw [beq_eq_false_iff_ne]; exact hqb
            have FIN : Hid (findRow a b (rows.drop (k + 1)) = F) := Lib.hid (by rw [if_neg (fun e => hqb e.2)] at I1; exact I1)
            clear I1 hpa hqb
            go_wp2_with fail
            exact ⟨⟨k + 1, by omega, by congr 1, FIN, trivial⟩, by simp [intOf]; omega⟩
        · have f1 : (p == a) = false := by rw [beq_eq_false_iff_ne]; exact hpa
          have FIN : Hid (findRow a b (rows.drop (k + 1)) = F) := Lib.hid (by rw [if_neg (fun e => hpa e.1)] at I1; exact I1)
          clear I1 hpa
          go_wp2_with fail
          exact ⟨⟨k + 1, by omega, by congr 1, FIN, trivial⟩, by simp [intOf]; omega⟩
      · obtain rfl : k = rows.length := by omega
        have FIN : Hid ((0 : Int) = F) := Lib.hid (by have h := I1.out; rw [List.drop_length] at h; exact h)
        clear I1
        go_wp2_with fail
        rw [← HQ.out, ← FIN.out]
        exact ⟨rfl, B2.out⟩
end Go.Proofs.YtdkcdgjpcojdfaaGreatDoor

namespace Go.Proofs.YtdkcdgjpcojdfaaGreatDoor
open Go.RowKit
open PCheck (Xp Bd bound parts at0 Four madeF made kindsF told Fine)

theorem kindOf_of {l : List Bd} {x : Xp} {ks : List Int} : (ofK l x (at0 ks (parts x) 0) (at0 ks (parts x) 1) (at0 ks (parts x) 2) ≠ 0 → PCheck.kindOf l x ks = (ofK l x (at0 ks (parts x) 0) (at0 ks (parts x) 1) (at0 ks (parts x) 2), 0)) ∧
    (ofK l x (at0 ks (parts x) 0) (at0 ks (parts x) 1) (at0 ks (parts x) 2) = 0 → (x.op = PCheck.nameS → bound l x.name = none → PCheck.kindOf l x ks = (0, 5)) ∧ (x.op = PCheck.nameS → (∃ k, bound l x.name = some k) → PCheck.kindOf l x ks = (0, 7)) ∧ (x.op ≠ PCheck.nameS → PCheck.kindOf l x ks = (0, 7))) := by
  by_cases h : x.op = PCheck.nameS
  · cases hb : bound l x.name with
    | none =>
      rw [ofK_none h hb]
      exact ⟨fun e => absurd rfl e, fun _ => ⟨fun _ _ => kindOf_none h hb, fun _ ⟨k, e⟩ => (by cases e), fun e => absurd h e⟩⟩
    | some k =>
      rw [ofK_name h hb]
      exact ⟨fun e => kindOf_name h hb e, fun e => ⟨fun _ e2 => (by cases e2), fun _ _ => kindOf_name0 h (by rw [hb, e]), fun e2 => absurd h e2⟩⟩
  · rw [ofK_other h]
    exact ⟨fun e => kindOf_other h rfl e, fun e => ⟨fun e2 => absurd e2 h, fun e2 => absurd e2 h, fun _ => kindOf_other0 h e⟩⟩
theorem partAt_in {x : Xp} {l : List Int} (hl : parts x = l) {n : Nat} (h : ∀ p ∈ l, 0 ≤ p ∧ p < (n : Int)) {t : Nat} (ht : t < l.length) : 0 ≤ partAt x t ∧ partAt x t < (n : Int) ∧ l[t]? = some (partAt x t) := by
  subst hl
  have h1 := parts_at ht
  have := h _ (List.mem_of_getElem? h1)
  exact ⟨this.1, this.2, h1⟩
set_option maxHeartbeats 12800000 in
set_option maxRecDepth 100000 in
theorem r10kind_any {w : World} {RA LA A : Option Addr} {rn rc n c ln lc : Nat} {E : List Xp} {l : List Bd} {r : Int} (hE : SlX xpR w A n E) (hL : SlX bdR w LA ln l) (hn : n ≤ 1000) (hl : ln ≤ 1000) :
    Calls Tryz.prog 38 #[.agg #[.slice RA rn rc, .slice A n c], .int .i64 r, .slice LA ln lc] w (KdAns (PCheck.kind E r l) w) := by
  obtain ⟨F, hF⟩ : ∃ F, PCheck.kind E r l = F := ⟨_, rfl⟩
  rw [hF]
  obtain ⟨Q, hQ⟩ : ∃ Q, KdAns F w = Q := ⟨_, rfl⟩
  rw [hQ]
  have HQ := Lib.hid hQ
  obtain ⟨L, hLL⟩ : ∃ L, w.heap.size = L := ⟨_, rfl⟩
  obtain ⟨w1, hw1, XB, b1⟩ : ∃ w1, w.alloc (.cells #[.slice RA rn rc, .slice A n c] 26) = w1 ∧ Box w1 w.heap.size [.slice RA rn rc, .slice A n c] ∧ Below w.heap.size w w1 := ⟨_, rfl, Box.new _ _ [.slice RA rn rc, .slice A n c], (Below.refl _ _).alloc (Nat.le_refl _) _⟩
  have hs1 : w1.heap.size = L + 1 := by rw [← hw1, ← hLL]; simp
  have HE0 := Lib.hid hE; have HL0 := Lib.hid hL
  have E1 := hE.on b1
  have hEl : E.length = n := hE.1
  rw [hLL] at XB b1
  have HLL := Lib.hid hLL; have HS1 := Lib.hid hs1
  have HW1 := Lib.hid hw1; have B1 := Lib.hid b1
  obtain ⟨x0, x1⟩ := bx2 XB
  have hsx := XB.1
  have X1 := Lib.hid XB
  clear hw1 b1 XB hE hL hQ
  by_cases hout : r < 0 ∨ (n : Int) ≤ r
  · have HF : Hid (((0 : Int), 0, 1) = F) := Lib.hid ((kind_out (by rw [hEl]; exact hout)).symm.trans hF)
    have KM := Lib.hid (rmade_out (w := w1) (RA := RA) (A := A) (rn := rn) (rc := rc) (c := c) hout)
    clear hF hout E1
    go_enter Tryz.func38, Tryz.ntmps38
    go_upto_region 1 with fail
    rw [HW1.out]
    (try rw [HLL.out])
    go_wp2_with fail
    refine (KM.out).mono ?_
    rintro _ w2 ⟨rfl, b2⟩
    have B2 : Hid (Below L w w2) := Lib.hid (B1.out.trans (b2.mono (by rw [HS1.out]; exact Nat.le_succ _)))
    clear b2 KM
    go_wp2_with fail
    rw [← HQ.out, ← HF.out]
    exact ⟨rfl, by rw [HLL.out]; exact B2.out⟩
  obtain ⟨k0, rfl⟩ : ∃ k0 : Nat, r = k0 := ⟨r.toNat, by omega⟩
  have hkn : k0 < n := by omega
  have KM := rmade_in (RA := RA) (rn := rn) (rc := rc) (c := c) E1 hkn hn
  have HKM := Lib.hid KM
  have g3 : (k0 : Int) + 1 ≤ 1000 := by omega
  have gk : (k0 : Int) < (n : Int) := by omega
  clear KM hout E1
  go_enter Tryz.func38, Tryz.ntmps38
  go_upto_region 1 with fail
  rw [HW1.out]
  (try rw [HLL.out])
  clear HW1
  cases hmd : made E k0 with
  | none =>
    have HF : Hid (((0 : Int), 0, 1) = F) := Lib.hid ((kind_unmade (by omega) hmd).symm.trans hF)
    rw [hmd] at HKM
    clear hF
    go_wp2_with fail
    refine (HKM.out).mono ?_
    rintro _ w2 ⟨b2, rfl⟩
    have B2 : Hid (Below L w w2) := Lib.hid (B1.out.trans (b2.mono (by rw [HS1.out]; exact Nat.le_succ _)))
    clear b2 HKM
    go_wp2_with fail
    rw [← HQ.out, ← HF.out]
    exact ⟨rfl, by rw [HLL.out]; exact B2.out⟩
  | some m =>
    have HF : Hid (told k0 (kindsF l E m (k0 + 1) 0 (List.replicate (k0 + 1) 0)) = F) := Lib.hid ((kind_made (by omega) hmd).symm.trans hF)
    obtain ⟨hml, hfine⟩ := made_fine (by omega) hmd
    have HFI := Lib.hid hfine
    rw [hmd] at HKM
    clear hF hmd hfine
    go_wp2_with fail
    refine (HKM.out).mono ?_
    rintro _ w2 ⟨b2, rfl, hrw⟩
    rw [HS1.out] at b2 hrw
    (try rw [HS1.out])
    have B2 : Hid (Below L w w2) := Lib.hid (B1.out.trans (b2.mono (Nat.le_succ _)))
    have X2 := Lib.hid (X1.out.keep b2 (Nat.lt_succ_self L))
    have hs2 : L + 2 < w2.heap.size := World.block_lt_of_cell? w2 _ (hrw.2 0 (by omega)).1
    have R2 := Lib.hid hrw
    have ek : ((k0 + 1 : Nat) : Int) = (k0 : Int) + 1 := by omega
    have hmk := fun W => make_rowK (k0 + 1) (by omega) W
    rw [ek] at hmk
    obtain ⟨w4, hw4, K4, b4⟩ : ∃ w4, w2.alloc (.cells (madeCells #[.int .i64 0] (k0 + 1)) 3) = w4 ∧ Hid (RwK w4 w2.heap.size (k0 + 1) (List.replicate (k0 + 1) 0)) ∧ Below w2.heap.size w2 w4 := ⟨_, rfl, Lib.hid (made_rwK w2 (k0 + 1)), (Below.refl _ _).alloc (Nat.le_refl _) _⟩
    have B4 : Hid (Below L w w4) := Lib.hid (B2.out.trans (b4.mono (by omega)))
    have R4 := Lib.hid (R2.out.on b4)
    have X4 := Lib.hid (X2.out.on b4)
    obtain ⟨KB, hKB⟩ : ∃ KB, w2.heap.size = KB := ⟨_, rfl⟩
    rw [hKB] at K4 hs2
    have HW4 := Lib.hid hw4; have HKB := Lib.hid hKB
    clear b2 b4 hrw R2 B1 B2 X1 X2 HKM x0 x1 hsx hw4 hKB ek
    go_upto_region 5 with fail
    rw [HW4.out]
    (try rw [HKB.out])
    clear HW4 hmk
    have S4 : Hid (KB < w4.heap.size) := Lib.hid (World.block_lt_of_cell? w4 _ (K4.out.2 0 (by omega)).1)
    have D4 := Lib.hid (four_rep (k0 + 1))
    go_wp2_with fail
    go_loopw [12] (fun q wx => ∃ (t f : Nat) (ks : List Int), t + f = k0 + 1 ∧ q = .int .i64 t ∧ Hid (told k0 (kindsF l E m f t ks) = F) ∧ Hid (RwK wx KB (k0 + 1) ks) ∧ Hid (RwB wx (L + 1 + 1) (k0 + 1) m) ∧ Hid (Box wx L [.slice RA rn rc, .slice A n c]) ∧ Hid (Below L w wx) ∧ Hid (∀ j, Four (ks.getD j 0)) ∧ Hid (KB < wx.heap.size)) (fun q _ => k0 + 1 - (intOf q).toNat)
    case atStart => exact ⟨0, k0 + 1, _, by omega, rfl, HF, K4, R4, X4, B4, D4, S4⟩
    case round =>
      clear HF K4 R4 X4 B4 D4 S4
      obtain ⟨t, f, ks, htf, rfl, I1, I2, I3, I4, I6, I7, I8⟩ := hrel
      cases f with
      | zero =>
        obtain rfl : t = k0 + 1 := by omega
        have ck := (I2.out.2 k0 (by omega)).1
        have hsk := I8.out
        obtain ⟨z, hz⟩ : ∃ z, ks.getD k0 0 = z := ⟨_, rfl⟩
        have FIN : Hid ((z, 0, 0) = F) := Lib.hid (by rw [← hz]; exact I1.out)
        rw [hz] at ck
        clear I1 I2 I3 I4 I7 I8 hz
        go_wp2_with fail
        rw [← HQ.out, ← FIN.out]
        exact ⟨rfl, by rw [HLL.out]; exact I6.out⟩
      | succ f =>
        have htk : t < k0 + 1 := by omega
        have gtk : (t : Int) < (k0 : Int) + 1 := by omega
        have gtk2 : (t : Int) ≤ (k0 : Int) := by omega
        have gtn : (t : Int) < (n : Int) := by omega
        have htE : t < E.length := by omega
        have hx := List.getElem?_eq_getElem htE
        obtain ⟨x, hxx⟩ : ∃ x, E[t] = x := ⟨_, rfl⟩
        rw [hxx] at hx
        obtain ⟨u1, -⟩ := I3.out.2 t htk
        have hsu := World.block_lt_of_cell? wr _ u1
        cases hb : m.getD t false with
        | false =>
          have FIN : Hid (told k0 (kindsF l E m f (t + 1) ks) = F) := Lib.hid (by rw [← kindsF_skip hx hb]; exact I1.out)
          rw [hb] at u1
          clear I1 hx hb hxx
          go_wp2_with fail
          exact ⟨⟨t + 1, f, ks, by omega, by congr 1, FIN, I2, I3, I4, I6, I7, I8⟩, by simp [intOf] <;> omega⟩
        | true =>
          have hmt := getD_true hb
          obtain ⟨y, hy, hfy⟩ := HFI.out t hmt
          obtain rfl : x = y := by rw [hx] at hy; exact Option.some.inj hy
          rw [hb] at u1
          obtain ⟨b, off, rfl, hc⟩ := (HE0.out.on (by rw [HLL.out]; exact I6.out)).at (show t < n by omega)
          have hd := hc t htE
          rw [hxx] at hd
          have c0 : wr.cell? ⟨b, off + t * 6, none⟩ = some (.string ⟨x.op.toArray⟩) := by simpa [xpR] using hd 0 _ rfl
          have c1 : wr.cell? ⟨b, off + t * 6 + 1, none⟩ = some (.string ⟨x.name.toArray⟩) := hd 1 _ rfl
          have c2 : wr.cell? ⟨b, off + t * 6 + 2, none⟩ = some (.int .i64 x.value) := hd 2 _ rfl
          have c3 : wr.cell? ⟨b, off + t * 6 + 3, none⟩ = some (.int .i64 x.a) := hd 3 _ rfl
          have c4 : wr.cell? ⟨b, off + t * 6 + 4, none⟩ = some (.int .i64 x.b) := hd 4 _ rfl
          have c5 : wr.cell? ⟨b, off + t * 6 + 5, none⟩ = some (.int .i64 x.c) := hd 5 _ rfl
          have hsb := World.block_lt_of_cell? wr _ c0
          obtain ⟨y0, y1⟩ := bx2 I4.out
          have hsy := I4.out.1
          obtain ⟨X, hX⟩ : ∃ X, wr.heap.size = X := ⟨_, rfl⟩
          obtain ⟨w5, hw5, YB, b5⟩ : ∃ w5, wr.alloc (.cells #[.string ⟨x.op.toArray⟩, .string ⟨x.name.toArray⟩, .int .i64 x.value, .int .i64 x.a, .int .i64 x.b, .int .i64 x.c] 104) = w5 ∧ Box w5 wr.heap.size (xpC x) ∧ Below wr.heap.size wr w5 := ⟨_, rfl, Box.new _ _ (xpC x), (Below.refl _ _).alloc (Nat.le_refl _) _⟩
          have hs5 : w5.heap.size = X + 1 := by rw [← hw5, ← hX]; simp
          obtain ⟨w6, hw6, TB, b6⟩ : ∃ w6, w5.alloc (.cells #[.int .i64 0, .int .i64 0, .int .i64 0] 129) = w6 ∧ Box w6 w5.heap.size [.int .i64 0, .int .i64 0, .int .i64 0] ∧ Below w5.heap.size w5 w6 := ⟨_, rfl, Box.new _ _ [.int .i64 0, .int .i64 0, .int .i64 0], (Below.refl _ _).alloc (Nat.le_refl _) _⟩
          have hKX : KB < X := by rw [← hX]; exact I8.out
          have J2 := Lib.hid ((I2.out.on b5).on b6); have J3 := Lib.hid ((I3.out.on b5).on b6); have J4 := Lib.hid ((I4.out.on b5).on b6)
          have J6 : Hid (Below L w w6) := Lib.hid ((I6.out.trans (b5.mono (by omega))).trans (b6.mono (by omega)))
          have Y6 := Lib.hid (YB.on b6)
          rw [hX] at Y6
          rw [hs5] at TB
          obtain ⟨l0, hl0⟩ : ∃ l0, parts x = l0 := ⟨_, rfl⟩
          have T6 : Hid (Box w6 (X + 1) (ofV ks l0 0)) := Lib.hid TB
          have hmany := Lib.hid (fun w => rmany_any x.op w)
          have hpart := Lib.hid (fun w t => rpart_any x t w)
          unfold xpC at hpart
          have hpl := parts_few3 x
          have hpm := parts_many x
          rw [hl0] at hpl hpm
          have hpa : Hid (∀ q, q < l0.length → 0 ≤ partAt x q ∧ partAt x q < ((k0 + 1 : Nat) : Int) ∧ l0[q]? = some (partAt x q)) := Lib.hid (fun q hq => partAt_in hl0 (fun p hp => ⟨(hfy p (by rw [hl0]; exact hp)).1, by have := (hfy p (by rw [hl0]; exact hp)).2; omega⟩) hq)
          rw [← hpm] at hmany
          have gl : (l0.length : Int) ≤ 3 := by omega
          have KO := Lib.hid (kindOf_of (l := l) (x := x) (ks := ks))
          rw [hl0] at KO
          have H4 := Lib.hid (PCheck.kindOf_four (l := l) (x := x) I7.out)
          have HW5 := Lib.hid hw5; have HW6 := Lib.hid hw6; have HX := Lib.hid hX; have HS5 := Lib.hid hs5
          have HXE := Lib.hid hx; have HMT := Lib.hid hmt; have HL00 := Lib.hid hl0
          clear hc hd hxx I2 I3 I4 I6 I8 hw5 hw6 hX YB TB b5 b6 hpm hx hl0 hb hmt hy hfy hs5
          go_upto_region 10 with fail
          rw [HW5.out]
          (try rw [HX.out])
          clear HW5 c0 c1 c2 c3 c4 c5 hsb y0 y1 hsy u1 hsu
          go_upto_region 11 with fail
          rw [HW6.out]
          (try rw [HS5.out])
          clear HW6
          go_wp2_with fail
          go_loopw [15] (fun q wx => ∃ s : Nat, s ≤ l0.length ∧ q = .int .i64 s ∧ Hid (Box wx (X + 1) (ofV ks l0 s)) ∧ Hid (RwK wx KB (k0 + 1) ks) ∧ Hid (RwB wx (L + 1 + 1) (k0 + 1) m) ∧ Hid (Box wx L [.slice RA rn rc, .slice (some ⟨b, off, none⟩) n c]) ∧ Hid (Below L w wx) ∧ Hid (Box wx X (xpC x))) (fun q _ => l0.length - (intOf q).toNat)
          case atStart => exact ⟨0, Nat.zero_le _, rfl, T6, J2, J3, J4, J6, Y6⟩
          case round =>
            clear T6 J2 J3 J4 J6 Y6
            obtain ⟨s, hs, rfl, K1, K2, K3, K4, K5, K6⟩ := hrel
            obtain ⟨z0, z1, z2, z3, z4, z5⟩ := box6 K6.out
            have hsz := K6.out.1
            by_cases hsl : s < l0.length
            · have gs : (s : Int) < (l0.length : Int) := by omega
              have gs3 : (s : Int) < 3 := by omega
              have hs3 : s < 3 := by omega
              obtain ⟨hp0, hp1, hp2⟩ := hpa.out s hsl
              have KP := Lib.hid (fun w => hpart.out w s)
              obtain ⟨p, hp⟩ : ∃ p, partAt x s = p := ⟨_, rfl⟩
              rw [hp] at KP hp0 hp1 hp2
              obtain ⟨pn, rfl⟩ : ∃ pn : Nat, p = pn := ⟨p.toNat, by omega⟩
              have hpn : pn < k0 + 1 := by omega
              have gp1 : (pn : Int) < (k0 : Int) + 1 := by omega
              have gp0 : ¬ (pn : Int) < 0 := by omega
              have HP2 := Lib.hid hp2
              clear hp0 hp1 hp2 hp
              go_wp2_with fail
              refine (hmany.out _).mono ?_
              rintro _ _ ⟨rfl, rfl⟩
              go_wp2_with fail
              refine (KP.out _).mono ?_
              rintro _ w7 ⟨rfl, b7⟩
              have M1 := K1.out.on b7; have M2 := K2.out.on b7
              have M3 := Lib.hid (K3.out.on b7); have M4 := Lib.hid (K4.out.on b7); have M6 := Lib.hid (K6.out.on b7)
              have M5 : Hid (Below L w w7) := Lib.hid (K5.out.trans (b7.mono (by omega)))
              have hs7 := b7.size
              obtain ⟨v1, -⟩ := M2.2 pn hpn
              have ct := M1.c s (ofV_at ks l0 hs3)
              have ft := M1.f s (ofV_at ks l0 hs3)
              have hst := M1.1
              have hset := M1.set s (by rw [ofV_len]; exact hs3) (.int .i64 (ks.getD pn 0))
              rw [ofV_set hs3 HP2.out] at hset
              have N1 := Lib.hid hset
              have N2 : Hid (RwK (w7.setCell ⟨X + 1, s, none⟩ (.int .i64 (ks.getD pn 0))) KB (k0 + 1) ks) := Lib.hid (M2.far (by show X + 1 ≠ KB; omega) _)
              have N3 : Hid (RwB (w7.setCell ⟨X + 1, s, none⟩ (.int .i64 (ks.getD pn 0))) (L + 1 + 1) (k0 + 1) m) := Lib.hid (M3.out.far (by show X + 1 ≠ L + 1 + 1; omega) _)
              have N4 := Lib.hid (M4.out.far (p := ⟨X + 1, s, none⟩) (by show X + 1 ≠ L; omega) (.int .i64 (ks.getD pn 0)))
              have N5 := Lib.hid (M5.out.setCell (p := ⟨X + 1, s, none⟩) (by show L ≤ X + 1; omega) (.int .i64 (ks.getD pn 0)))
              have N6 := Lib.hid (M6.out.far (p := ⟨X + 1, s, none⟩) (by show X + 1 ≠ X; omega) (.int .i64 (ks.getD pn 0)))
              clear b7 M1 M2 M3 M4 M5 M6 z0 z1 z2 z3 z4 z5 KP K1 K2 K3 K4 K5 K6 hset
              go_wp2_with fail
              exact ⟨⟨s + 1, by omega, by congr 1, N1, N2, N3, N4, N5, N6⟩, by simp [intOf]; omega⟩
            · obtain rfl : s = l0.length := by omega
              have TB := K1.out
              rw [ofV_end] at TB
              obtain ⟨t0, t1, t2⟩ := box3 TB
              have hsT := TB.1
              have OF := Lib.hid (rof_any (x := x) (c := at0 ks l0 2) (lc := lc) (HL0.out.on (by rw [HLL.out]; exact K5.out)) hl (four_at0 I7.out l0 0) (four_at0 I7.out l0 1))
              obtain ⟨z, hz⟩ : ∃ z, ofK l x (at0 ks l0 0) (at0 ks l0 1) (at0 ks l0 2) = z := ⟨_, rfl⟩
              rw [hz] at OF KO
              unfold xpC at OF
              clear TB hz hs hsl
              go_wp2_with fail
              refine (hmany.out _).mono ?_
              rintro _ _ ⟨rfl, rfl⟩
              go_wp2_with fail
              refine (OF.out).mono ?_
              rintro _ w7 ⟨rfl, b7⟩
              have M2 := K2.out.on b7
              have M3 := K3.out.on b7; have M4 := K4.out.on b7; have M6 := K6.out.on b7
              have M5 : Below L w w7 := K5.out.trans (b7.mono (by omega))
              have hs7 := b7.size
              obtain ⟨v1, f1⟩ := M2.2 t htk
              have hsv := World.block_lt_of_cell? w7 _ v1
              obtain ⟨w8, hw8, N2, N3, N4, N5, N6, hs8⟩ : ∃ w8, w7.setCell ⟨KB, t, none⟩ (.int .i64 z) = w8 ∧ RwK w8 KB (k0 + 1) (ks.set t z) ∧ RwB w8 (L + 1 + 1) (k0 + 1) m ∧ Box w8 L [.slice RA rn rc, .slice (some ⟨b, off, none⟩) n c] ∧ Below L w w8 ∧ Box w8 X (xpC x) ∧ w8.heap.size = w7.heap.size :=
                ⟨_, rfl, M2.set htk z, M3.far (by show KB ≠ L + 1 + 1; omega) _, M4.far (by show KB ≠ L; omega) _, M5.setCell (by show L ≤ KB; omega) _, M6.far (by show KB ≠ X; omega) _, by simp only [World.size_setCell]⟩
              obtain ⟨q1, -⟩ := N2.2 t htk
              have hzt : (ks.set t z).getD t 0 = z := by simp [List.getD, (show t < ks.length by rw [K2.out.1]; exact htk)]
              rw [hzt] at q1
              obtain ⟨z0', z1', z2', z3', z4', z5'⟩ := box6 N6
              have hsz8 := N6.1
              have hsq := World.block_lt_of_cell? w8 _ q1
              have HW8 := Lib.hid hw8
              have N2 := Lib.hid N2; have N3 := Lib.hid N3; have N4 := Lib.hid N4; have N5 := Lib.hid N5
              clear b7 M2 M3 M4 M5 M6 K1 K2 K3 K4 K5 K6 t0 t1 t2 hsT OF hw8 hzt N6
              go_upto_region 16 with fail
              rw [HW8.out]
              clear z0 z1 z2 z3 z4 z5 hsz v1 f1 hsv HW8
              by_cases hz0 : z = 0
              · subst hz0
                obtain ⟨o1, o2, o3⟩ := KO.out.2 rfl
                have ER : Hid (∀ e, PCheck.kindOf l x ks = (0, e) → e ≠ 0 → ((0 : Int), t, e) = F) := Lib.hid (fun e h he => by
                  have h1 := I1.out
                  rw [kindsF_err HXE.out HMT.out (by rw [h]; exact he), h, told_err he] at h1
                  exact h1)
                have HO1 := Lib.hid o1; have HO2 := Lib.hid o2; have HO3 := Lib.hid o3
                clear I1 KO o1 o2 o3 N2 N3 N4 H4
                by_cases hnm : x.op = PCheck.nameS
                · have hne : (x.op == [110, 97, 109, 101]) = true := by rw [beq_iff_eq]; exact hnm
                  have FD := Lib.hid (rfind_any (c := lc) (s := x.name) (HL0.out.on (by rw [HLL.out]; exact N5.out)) hl)
                  have HNM := Lib.hid hnm
                  clear hnm
                  go_wp2_with fail
                  refine (FD.out).mono ?_
                  rintro _ w9 ⟨z9, rfl, hz9, b9⟩
                  have B9 : Hid (Below L w w9) := Lib.hid (N5.out.trans (b9.mono (by omega)))
                  clear b9 FD q1 hsq z0' z1' z2' z3' z4' z5' hsz8 N5
                  rcases hz9 with ⟨rfl, hbd⟩ | ⟨i9, hi9, rfl, hbd⟩
                  · have FIN := Lib.hid (ER.out 5 (HO1.out HNM.out hbd) (by decide))
                    clear hbd ER HO1 HO2 HO3
                    go_wp2_with fail
                    rw [← HQ.out, ← FIN.out]
                    exact ⟨rfl, by rw [HLL.out]; exact B9.out⟩
                  · have FIN := Lib.hid (ER.out 7 (HO2.out HNM.out ⟨_, hbd⟩) (by decide))
                    have g9 : ¬ (i9 : Int) < 0 := by omega
                    clear hbd ER HO1 HO2 HO3 hi9
                    go_wp2_with fail
                    rw [← HQ.out, ← FIN.out]
                    exact ⟨rfl, by rw [HLL.out]; exact B9.out⟩
                · have hne : (x.op == [110, 97, 109, 101]) = false := by rw [beq_eq_false_iff_ne]; exact hnm
                  have FIN := Lib.hid (ER.out 7 (HO3.out hnm) (by decide))
                  clear hnm ER HO1 HO2 HO3
                  go_wp2_with fail
                  rw [← HQ.out, ← FIN.out]
                  exact ⟨rfl, by rw [HLL.out]; exact N5.out⟩
              · have hzb : (z == 0) = false := by rw [beq_eq_false_iff_ne]; exact hz0
                have hko := KO.out.1 hz0
                have FIN : Hid (told k0 (kindsF l E m f (t + 1) (ks.set t z)) = F) := Lib.hid (by
                  have h1 := I1.out
                  rw [kindsF_go HXE.out HMT.out (by rw [hko]), hko] at h1
                  exact h1)
                have I9 := Lib.hid (four_set I7.out t (z := z) (by have h := H4.out; rw [hko] at h; exact h))
                have S9 : Hid (KB < w8.heap.size) := Lib.hid (by omega)
                clear I1 KO hko H4 hz0
                go_wp2_with fail
                exact ⟨⟨t + 1, f, ks.set t z, by omega, by congr 1, FIN, N2, N3, N4, N5, I9, S9⟩, by simp [intOf] <;> omega⟩
end Go.Proofs.YtdkcdgjpcojdfaaGreatDoor
