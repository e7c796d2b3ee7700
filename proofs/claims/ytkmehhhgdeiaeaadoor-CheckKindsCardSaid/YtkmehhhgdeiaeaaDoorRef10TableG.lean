/-
  What the document's answer of layer 10 says: the table of an operation of two parts, in memory.
-/
import Derived.Test.YtkmehhhgdeiaeaaDoorCM
import Derived.Test.YtkmehhhgdeiaeaaDoorCheckKindByG
namespace Go.Proofs.YtkmehhhgdeiaeaaDoor
open Go.RowKit

/-- Rows of three numbers, and a row of these. -/
def TbI (w : World) (A : Option Addr) (rows : List (List Int)) : Prop := rows = [] ∨ ∃ b, A = some ⟨b, 0, none⟩ ∧ ∀ i row, rows[i]? = some row → ∃ g c, w.cell? ⟨b, i, none⟩ = some (.slice (some ⟨g, 0, none⟩) 3 c) ∧ ∀ j z, row[j]? = some z → w.cell? ⟨g, j, none⟩ = some (.int .i64 z)
def lay10 (t : TypeId) : World → List (List Int) → World
  | w, [] => w
  | w, r :: rs => lay10 t (w.alloc (.cells (r.map fun z => Value.int .i64 z).toArray t)) rs
theorem lay10_below (t : TypeId) : ∀ (rs : List (List Int)) (w : World), Below w.heap.size w (lay10 t w rs)
  | [], _ => Below.refl _ _
  | _ :: rs, _ => below_step ((Below.refl _ _).alloc (Nat.le_refl _) _) (lay10_below t rs _)
theorem lay10_size (t : TypeId) : ∀ (rs : List (List Int)) (w : World), (lay10 t w rs).heap.size = w.heap.size + rs.length
  | [], _ => rfl
  | _ :: rs, w => by
    show (lay10 t _ rs).heap.size = _
    rw [lay10_size t rs]; simp; omega
theorem lay10_cell (t : TypeId) : ∀ (rs : List (List Int)) (w : World) (i : Nat) (row : List Int), rs[i]? = some row → ∀ j z, row[j]? = some z → (lay10 t w rs).cell? ⟨w.heap.size + i, j, none⟩ = some (.int .i64 z)
  | [], _, _, _, h => by cases h
  | r :: rs, w, 0, row, h => fun j z hz => by
    obtain rfl : r = row := by simpa using h
    have h1 : (w.alloc (.cells (r.map fun z => Value.int .i64 z).toArray t)).cell? ⟨w.heap.size, j, none⟩ = some (.int .i64 z) := (Box.new w t (r.map fun z => Value.int .i64 z)).c j (by simp [hz])
    exact ((lay10_below t rs _).cell (World.block_lt_of_cell? _ _ h1)).trans h1
  | r :: rs, w, i + 1, row, h => fun j z hz => by
    have ih := lay10_cell t rs (w.alloc (.cells (r.map fun z => Value.int .i64 z).toArray t)) i row (by simpa using h) j z hz
    have e : (w.alloc (.cells (r.map fun z => Value.int .i64 z).toArray t)).heap.size + i = w.heap.size + (i + 1) := by simp; omega
    rw [e] at ih
    exact ih
theorem tb_lay (w : World) (t t2 : TypeId) (rs : List (List Int)) {H : Nat} (hH : H = w.heap.size + rs.length) :
    TbI ((lay10 t w rs).alloc (.cells ((List.range rs.length).map fun i => Value.slice (some ⟨w.heap.size + i, 0, none⟩) 3 3).toArray t2)) (some ⟨H, 0, none⟩) rs ∧ Below w.heap.size w ((lay10 t w rs).alloc (.cells ((List.range rs.length).map fun i => Value.slice (some ⟨w.heap.size + i, 0, none⟩) 3 3).toArray t2)) := by
  subst hH
  have hb := lay10_below t rs w
  refine ⟨.inr ⟨_, rfl, fun i row h => ?_⟩, hb.alloc hb.size _⟩
  have hi : i < rs.length := (List.getElem?_eq_some_iff.1 h).1
  refine ⟨w.heap.size + i, 3, ?_, fun j z hz => ?_⟩
  · have h0 := (Box.new (lay10 t w rs) t2 ((List.range rs.length).map fun i => Value.slice (some ⟨w.heap.size + i, 0, none⟩) 3 3)).c i (v := .slice (some ⟨w.heap.size + i, 0, none⟩) 3 3) (by simp [hi])
    rw [lay10_size] at h0
    exact h0
  · have h1 := lay10_cell t rs w i row h j z hz
    exact (((Below.refl (lay10 t w rs).heap.size _).alloc (Nat.le_refl _) _).cell (World.block_lt_of_cell? _ _ h1)).trans h1
theorem table_three (op : List UInt8) : ∀ row ∈ PCheck.tableL op, ∃ p q r, row = [p, q, r] := by
  have h : ∀ (l : List (List Int)), (∀ row ∈ l, row.length = 3) → ∀ row ∈ l, ∃ p q r, row = [p, q, r] := fun l hl row hr => by
    have h3 := hl row hr
    match row, h3 with
    | [p, q, r], _ => exact ⟨p, q, r, rfl⟩
  apply h
  unfold PCheck.tableL
  (repeat' split) <;> decide
theorem table_few (op : List UInt8) : (PCheck.tableL op).length ≤ 5 := by
  unfold PCheck.tableL
  (repeat' split) <;> decide
set_option maxHeartbeats 6400000 in
set_option maxRecDepth 100000 in
theorem rtable_any (op : List UInt8) (w : World) : Calls Tryd.prog 29 #[.string ⟨op.toArray⟩] w fun e w' => ∃ A c, e = .returned (.slice A (PCheck.tableL op).length c) ∧ TbI w' A (PCheck.tableL op) ∧ Below w.heap.size w w' := by
  by_cases hop : op ∈ PCheck.twoL
  · simp only [PCheck.twoL, List.mem_cons, List.not_mem_nil, or_false] at hop
    rcases hop with rfl | rfl | rfl | rfl | rfl | rfl | rfl | rfl | rfl | rfl | rfl
    all_goals
      go_enter Tryd.func29, Tryd.ntmps29
      go_wp2_with fail
      go_ret
      first
        | exact ⟨_, _, rfl, tb_lay w 3 49 [[1, 1, 1], [3, 3, 3]] rfl⟩
        | exact ⟨_, _, rfl, tb_lay w 3 49 [[3, 3, 3], [1, 3, 1], [3, 1, 1], [1, 2, 1], [2, 1, 1]] rfl⟩
        | exact ⟨_, _, rfl, tb_lay w 3 49 [[1, 1, 1], [2, 2, 2], [3, 3, 3]] rfl⟩
        | exact ⟨_, _, rfl, tb_lay w 3 49 [[1, 1, 4], [2, 2, 4], [3, 3, 4], [4, 4, 4]] rfl⟩
        | exact ⟨_, _, rfl, tb_lay w 3 49 [[1, 1, 4], [2, 2, 4], [3, 3, 4]] rfl⟩
  · have e1 := kb_ne hop (s := [43]) (by decide); have e2 := kb_ne hop (s := [45]) (by decide); have e3 := kb_ne hop (s := [42]) (by decide); have e4 := kb_ne hop (s := [60]) (by decide)
    have e5 := kb_ne hop (s := [60, 61]) (by decide); have e6 := kb_ne hop (s := [61]) (by decide); have e7 := kb_ne hop (s := [60, 62]) (by decide); have e8 := kb_ne hop (s := [62]) (by decide)
    have e9 := kb_ne hop (s := [62, 61]) (by decide); have e10 := kb_ne hop (s := [109, 105, 110]) (by decide); have e11 := kb_ne hop (s := [109, 97, 120]) (by decide)
    have HT : Hid (PCheck.tableL op = []) := Lib.hid (by
      simp only [PCheck.twoL, List.mem_cons, List.not_mem_nil, or_false, not_or] at hop
      obtain ⟨n1, n2, n3, n4, n5, n6, n7, n8, n9, n10, n11⟩ := hop
      unfold PCheck.tableL
      rw [if_neg (by rintro (h | h); exact n1 h; exact n2 h), if_neg n3, if_neg (by rintro (h | h); exact n10 h; exact n11 h), if_neg (by rintro (h | h); exact n6 h; exact n7 h), if_neg (by rintro (h | h | h | h); exact n4 h; exact n5 h; exact n8 h; exact n9 h)])
    clear hop
    go_enter Tryd.func29, Tryd.ntmps29
    go_wp2_with fail
    go_ret
    rw [HT.out]
    exact ⟨none, 0, rfl, .inl rfl, Below.refl _ _⟩
end Go.Proofs.YtkmehhhgdeiaeaaDoor
