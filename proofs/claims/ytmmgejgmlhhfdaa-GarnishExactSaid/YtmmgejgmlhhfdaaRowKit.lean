/-
  Rows of ints in blocks of their own; calls that answer a slice, or a slice and an error.
-/
import Derived.Test.YtmmgejgmlhhfdaaRef02Mul
namespace Go.Proofs.Ytmmgejgmlhhfdaa
open Go.RowKit

theorem make_row (L : Nat) (h : L ≤ 1000) (W : World) :
    (Instr.makeSlice 24 (.int .i64 (L : Int)) (.int .i64 (L : Int))).run Try.prog W = .ok (.slice (some ⟨W.heap.size, 0, none⟩) L L) (W.alloc (.cells (madeCells #[.int .i64 0] L) 3)) :=
  run_make_row' (P := Try.prog) 24 3 (.int .i64 0) 8 Try.underlying24 infoInt rfl .i64 .i64 L (by omega) (by omega) W

/-- A row of ints in a block of its own. -/
def Rw (w : World) (H N : Nat) (l : List Int) : Prop := l.length = N ∧ ∀ t, t < N → w.cell? ⟨H, t, none⟩ = some (.int .i64 (l.getD t 0)) ∧ w.frozen? ⟨H, t, none⟩ = false
theorem Rw.of_row {w : World} {H N : Nat} {l : List Int} (h : Row w H N l) (hl : l.length = N) : Rw w H N l := ⟨hl, fun _ ht => ⟨row_at h hl ht, h.frozenAt _⟩⟩
theorem Rw.on {w w' : World} {H N : Nat} {l : List Int} (h : Rw w H N l) (hb : Below w.heap.size w w') : Rw w' H N l :=
  ⟨h.1, fun t ht => ⟨(hb.cell (World.block_lt_of_cell? w _ (h.2 t ht).1)).trans (h.2 t ht).1, (hb.frozen (p := ⟨H, t, none⟩) (World.block_lt_of_cell? w _ (h.2 t ht).1)).trans (h.2 t ht).2⟩⟩
theorem frozen_set (w : World) (p q : Addr) (v : Value) : (w.setCell p v).frozen? q = w.frozen? q := by go_simp
theorem Rw.far {w : World} {H N : Nat} {l : List Int} (h : Rw w H N l) {p : Addr} (hp : p.block ≠ H) (v : Value) : Rw (w.setCell p v) H N l :=
  ⟨h.1, fun t ht => ⟨by rw [World.cell?_setCell_far _ _ _ _ hp]; exact (h.2 t ht).1, by rw [frozen_set]; exact (h.2 t ht).2⟩⟩
theorem Rw.set {w : World} {H N : Nat} {l : List Int} (h : Rw w H N l) {t : Nat} (ht : t < N) (z : Int) : Rw (w.setCell ⟨H, t, none⟩ (.int .i64 z)) H N (l.set t z) := by
  refine ⟨by rw [List.length_set]; exact h.1, fun s hs => ⟨?_, by rw [frozen_set]; exact (h.2 s hs).2⟩⟩
  by_cases e : s = t
  · subst e
    rw [World.cell?_setCell_same _ _ _ (h.2 s hs).1]
    simp [List.getD, h.1, hs]
  · rw [World.cell?_setCell_other _ _ _ _ (by intro c; simp only [Addr.mk.injEq] at c; omega), (h.2 s hs).1]
    simp only [List.getD, List.getElem?_set_ne (Ne.symm e)]
theorem Rw.sl {w : World} {H N : Nat} {l m : List Int} (h : Rw w H N l) (hm : m.length = N) (he : ∀ t, t < N → l.getD t 0 = m.getD t 0) (hi : In64 m) (hN : N ≤ 1000) : Sl w (some ⟨H, 0, none⟩) N m :=
  ⟨hm, fun i hi' => hi i (by omega), by omega, .inr ⟨H, 0, rfl, fun i hi' => by rw [Nat.zero_add, (h.2 i hi').1, he i hi']⟩⟩
theorem set_get {l : List Int} {N t s : Nat} {z : Int} (hl : l.length = N) (ht : t < N) : (l.set t z).getD s 0 = if s = t then z else l.getD s 0 := by
  by_cases e : s = t
  · subst e; rw [if_pos rfl]; simp [List.getD, hl, ht]
  · rw [if_neg e]; simp only [List.getD, List.getElem?_set_ne (Ne.symm e)]


/-- A call that answers a slice that reads as a list. -/
def SlR (l : List Int) (w : World) (e : Ending) (w' : World) : Prop := ∃ B m c, e = .returned (.slice B m c) ∧ (B = none → c = 0) ∧ m ≤ c ∧ Sl w' B m l ∧ Below w.heap.size w w'
theorem in64_nat {f : Nat → Nat} {k : Nat} (h : ∀ i, i < k → f i ≤ 9223372036854775807) : In64 ((List.range k).map (fun i => ((f i : Nat) : Int))) := by
  intro i hi
  have hk : i < k := by simpa using hi
  have := h i hk
  simp [List.getD, hk]
  omega

/-- A call that answers a slice and an error. -/
def SplR (l : List Int) (err : Int) (w : World) (e : Ending) (w' : World) : Prop := ∃ B m c, e = .returned (.tuple #[.slice B m c, .int .i64 err]) ∧ (B = none → c = 0) ∧ m ≤ c ∧ Sl w' B m l ∧ Below w.heap.size w w'
theorem sl_nil (w : World) : Sl w none 0 [] := ⟨rfl, fun i hi => by omega, by omega, .inl rfl⟩
theorem splR_err (w : World) (e : Int) : SplR [] e w (.returned (.tuple #[.slice none 0 0, .int .i64 e])) w := ⟨none, 0, 0, rfl, fun _ => rfl, Nat.le_refl _, sl_nil w, Below.refl _ _⟩
theorem SplR.from {l : List Int} {err : Int} {w w1 : World} {e : Ending} {w' : World} (h : SplR l err w1 e w') (hb : Below w.heap.size w w1) : SplR l err w e w' := by
  obtain ⟨B, m, c, he, h1, h2, h3, h4⟩ := h
  exact ⟨B, m, c, he, h1, h2, h3, below_step hb h4⟩
end Go.Proofs.Ytmmgejgmlhhfdaa
