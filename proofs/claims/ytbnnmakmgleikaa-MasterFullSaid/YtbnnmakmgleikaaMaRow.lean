/-
  Records, orders and people in cells: a slice of people that reads as a list, whatever its people's own slices are.
-/
import Derived.Test.YtbnnmakmgleikaaMaMath
import Derived.Test.YtbnnmakmgleikaaRecKit
import Derived.Test.YtbnnmakmgleikaaBoxKit
namespace Go.Proofs.Ytbnnmakmgleikaa
open Go.RowKit

def rcdR : Rec PMa.Rcd where
  C r := [.int .i64 r.frm, .int .i64 r.ctr, .int .i64 r.base, .int .i64 r.bonus, .int .i64 r.hours, .int .i64 r.days, .bool r.lead]
  k := 7
  pos := by decide
  len _ := rfl
  one r u h := by simp at h; rcases h with rfl | rfl | rfl | rfl | rfl | rfl | rfl <;> rfl
def ordM : Rec PMa.Ord where
  C o := [.int .i64 o.cred, .int .i64 o.prio, .int .i64 o.claim, .int .i64 o.bal]
  k := 4
  pos := by decide
  len _ := rfl
  one o u h := by simp at h; rcases h with rfl | rfl | rfl | rfl <;> rfl
/-- A person as cells hold them: the records and the orders lie elsewhere. -/
structure Raw where
  id : Int
  hired : Int
  gone : Int
  A : Option Addr
  n : Nat
  c : Nat
  B : Option Addr
  m : Nat
  d : Nat
instance : Inhabited Raw := ⟨⟨0, 0, 0, none, 0, 0, none, 0, 0⟩⟩
def Raw.C (r : Raw) : List Value := [.int .i64 r.id, .int .i64 r.hired, .int .i64 r.gone, .slice r.A r.n r.c, .slice r.B r.m r.d]
def Raw.V (r : Raw) : Value := .agg #[.int .i64 r.id, .int .i64 r.hired, .int .i64 r.gone, .slice r.A r.n r.c, .slice r.B r.m r.d]
def rawR : Rec Raw where
  C := Raw.C
  k := 5
  pos := by decide
  len _ := rfl
  one r u h := by simp [Raw.C] at h; rcases h with rfl | rfl | rfl | rfl | rfl <;> rfl
/-- The cells are that person's. -/
structure RawOk (w : World) (r : Raw) (p : PMa.Per) : Prop where
  id : r.id = p.id
  hired : r.hired = p.hired
  gone : r.gone = p.gone
  recs : SlX rcdR w r.A r.n p.recs
  ords : SlX ordM w r.B r.m p.ords
  a0 : r.A = none → r.c = 0
  b0 : r.B = none → r.d = 0
  ac : r.n ≤ r.c
  bd : r.m ≤ r.d
  cm : r.c ≤ maxLen
  dm : r.d ≤ maxLen
theorem RawOk.on {w w' : World} {r : Raw} {p : PMa.Per} (h : RawOk w r p) (hb : Below w.heap.size w w') : RawOk w' r p := ⟨h.id, h.hired, h.gone, h.recs.on hb, h.ords.on hb, h.a0, h.b0, h.ac, h.bd, h.cm, h.dm⟩
/-- The rows of people are that master's. -/
structure RawsOk (w : World) (rs : List Raw) (M : List PMa.Per) : Prop where
  len : rs.length = M.length
  at_ : ∀ (i : Nat) (r : Raw) (p : PMa.Per), rs[i]? = some r → M[i]? = some p → RawOk w r p
theorem RawsOk.on {w w' : World} {rs : List Raw} {M : List PMa.Per} (h : RawsOk w rs M) (hb : Below w.heap.size w w') : RawsOk w' rs M := ⟨h.len, fun i r p h1 h2 => (h.at_ i r p h1 h2).on hb⟩
theorem RawsOk.nil (w : World) : RawsOk w [] [] := ⟨rfl, fun i r p h => by simp at h⟩
theorem RawsOk.with_ {w : World} {rs : List Raw} {M : List PMa.Per} (h : RawsOk w rs M) {i j : Nat} {r : Raw} {p : PMa.Per} (hi : i ≤ M.length) (hj : i ≤ j) (hr : RawOk w r p) : RawsOk w (PMa.with_ rs i j r) (PMa.with_ M i j p) := by
  have hl := h.len
  refine ⟨by rw [PMa.with_len _ (by omega), PMa.with_len _ hi, hl], fun k r' p' h1 h2 => ?_⟩
  rcases Nat.lt_trichotomy k i with g | g | g
  · rw [PMa.with_lo (by omega) g] at h1
    rw [PMa.with_lo hi g] at h2
    exact h.at_ k r' p' h1 h2
  · subst g
    rw [PMa.with_at (by omega)] at h1
    rw [PMa.with_at hi] at h2
    cases h1; cases h2; exact hr
  · obtain ⟨q, rfl⟩ : ∃ q, k = i + 1 + q := ⟨k - i - 1, by omega⟩
    rw [PMa.with_hi (by omega)] at h1
    rw [PMa.with_hi hi] at h2
    exact h.at_ _ r' p' h1 h2
/-- A master's people. -/
def MaS (w : World) (A : Option Addr) (n : Nat) (M : List PMa.Per) : Prop := ∃ rs, SlX rawR w A n rs ∧ RawsOk w rs M
theorem MaS.on {w w' : World} {A : Option Addr} {n : Nat} {M : List PMa.Per} (h : MaS w A n M) (hb : Below w.heap.size w w') : MaS w' A n M := by
  obtain ⟨rs, h1, h2⟩ := h
  exact ⟨rs, h1.on hb, h2.on hb⟩
theorem MaS.len {w : World} {A : Option Addr} {n : Nat} {M : List PMa.Per} (h : MaS w A n M) : M.length = n := by
  obtain ⟨rs, h1, h2⟩ := h
  rw [← h2.len, h1.1]
theorem maS_nil (w : World) : MaS w none 0 [] := ⟨[], slr_nil _ _ _, RawsOk.nil w⟩
variable {α : Type} {R : Rec α}
theorem SlX.take {w : World} {A : Option Addr} {n i : Nat} {l : List α} (h : SlX R w A n l) (hi : i ≤ n) : SlX R w A i (l.take i) := by
  obtain ⟨h1, h2⟩ := h
  refine ⟨by rw [List.length_take]; omega, ?_⟩
  rcases h2 with h2 | ⟨b, off, h3, h4⟩
  · exact .inl (by omega)
  · refine .inr ⟨b, off, h3, fun k hk j v e => ?_⟩
    rw [List.length_take] at hk
    rw [List.getElem_take] at e
    exact h4 k (by omega) j v e
theorem SlX.drop {w : World} {b off n j : Nat} {l : List α} (h : SlX R w (some ⟨b, off, none⟩) n l) : SlX R w (some ⟨b, off + j * R.k, none⟩) (n - j) (l.drop j) := by
  obtain ⟨h1, h2⟩ := h
  refine ⟨by rw [List.length_drop]; omega, ?_⟩
  rcases h2 with h2 | ⟨b', off', h3, h4⟩
  · exact .inl (by omega)
  · cases h3
    refine .inr ⟨b, off + j * R.k, rfl, fun k hk q v e => ?_⟩
    rw [List.length_drop] at hk
    rw [List.getElem_drop] at e
    have := h4 (j + k) (by omega) q v e
    rw [show off + j * R.k + k * R.k + q = off + (j + k) * R.k + q by rw [Nat.add_mul]; omega]
    exact this
/-- The cells of one person, of one record, of one order. -/
theorem raw_cell {w : World} {b o n : Nat} {l : List Raw} (h : SlX rawR w (some ⟨b, o, none⟩) n l) {i : Nat} (hi : i < n) {r : Raw} (hp : l[i]? = some r) :
    w.cell? ⟨b, o + i * 5, none⟩ = some (.int .i64 r.id) ∧ w.cell? ⟨b, o + i * 5 + 1, none⟩ = some (.int .i64 r.hired) ∧ w.cell? ⟨b, o + i * 5 + 2, none⟩ = some (.int .i64 r.gone) ∧ w.cell? ⟨b, o + i * 5 + 3, none⟩ = some (.slice r.A r.n r.c) ∧ w.cell? ⟨b, o + i * 5 + 4, none⟩ = some (.slice r.B r.m r.d) := by
  obtain ⟨b', o', e, hc⟩ := h.at hi
  cases e
  have hl : i < l.length := by rw [h.1]; exact hi
  have e : l[i] = r := by rw [List.getElem?_eq_getElem hl] at hp; exact Option.some.inj hp
  have c0 := hc i hl 0; have c1 := hc i hl 1; have c2 := hc i hl 2; have c3 := hc i hl 3; have c4 := hc i hl 4
  rw [e] at c0 c1 c2 c3 c4
  exact ⟨c0 _ rfl, c1 _ rfl, c2 _ rfl, c3 _ rfl, c4 _ rfl⟩
theorem rcd_cell {w : World} {b o n : Nat} {l : List PMa.Rcd} (h : SlX rcdR w (some ⟨b, o, none⟩) n l) {i : Nat} (hi : i < n) {r : PMa.Rcd} (hp : l[i]? = some r) :
    w.cell? ⟨b, o + i * 7, none⟩ = some (.int .i64 r.frm) ∧ w.cell? ⟨b, o + i * 7 + 1, none⟩ = some (.int .i64 r.ctr) ∧ w.cell? ⟨b, o + i * 7 + 2, none⟩ = some (.int .i64 r.base) ∧ w.cell? ⟨b, o + i * 7 + 3, none⟩ = some (.int .i64 r.bonus) ∧ w.cell? ⟨b, o + i * 7 + 4, none⟩ = some (.int .i64 r.hours) ∧ w.cell? ⟨b, o + i * 7 + 5, none⟩ = some (.int .i64 r.days) ∧ w.cell? ⟨b, o + i * 7 + 6, none⟩ = some (.bool r.lead) := by
  obtain ⟨b', o', e, hc⟩ := h.at hi
  cases e
  have hl : i < l.length := by rw [h.1]; exact hi
  have e : l[i] = r := by rw [List.getElem?_eq_getElem hl] at hp; exact Option.some.inj hp
  have c0 := hc i hl 0; have c1 := hc i hl 1; have c2 := hc i hl 2; have c3 := hc i hl 3; have c4 := hc i hl 4; have c5 := hc i hl 5; have c6 := hc i hl 6
  rw [e] at c0 c1 c2 c3 c4 c5 c6
  exact ⟨c0 _ rfl, c1 _ rfl, c2 _ rfl, c3 _ rfl, c4 _ rfl, c5 _ rfl, c6 _ rfl⟩
theorem ord_cell {w : World} {b o n : Nat} {l : List PMa.Ord} (h : SlX ordM w (some ⟨b, o, none⟩) n l) {i : Nat} (hi : i < n) {r : PMa.Ord} (hp : l[i]? = some r) :
    w.cell? ⟨b, o + i * 4, none⟩ = some (.int .i64 r.cred) ∧ w.cell? ⟨b, o + i * 4 + 1, none⟩ = some (.int .i64 r.prio) ∧ w.cell? ⟨b, o + i * 4 + 2, none⟩ = some (.int .i64 r.claim) ∧ w.cell? ⟨b, o + i * 4 + 3, none⟩ = some (.int .i64 r.bal) := by
  obtain ⟨b', o', e, hc⟩ := h.at hi
  cases e
  have hl : i < l.length := by rw [h.1]; exact hi
  have e : l[i] = r := by rw [List.getElem?_eq_getElem hl] at hp; exact Option.some.inj hp
  have c0 := hc i hl 0; have c1 := hc i hl 1; have c2 := hc i hl 2; have c3 := hc i hl 3
  rw [e] at c0 c1 c2 c3
  exact ⟨c0 _ rfl, c1 _ rfl, c2 _ rfl, c3 _ rfl⟩
/-- A flag, and new blocks only; a number, and new blocks only. -/
def FlagM (b : Bool) (w : World) (e : Ending) (w' : World) : Prop := e = .returned (.bool b) ∧ Below w.heap.size w w'
def IntM (z : Int) (w : World) (e : Ending) (w' : World) : Prop := e = .returned (.int .i64 z) ∧ Below w.heap.size w w'
def SameM (v : Value) (w : World) (e : Ending) (w' : World) : Prop := e = .returned v ∧ w' = w
end Go.Proofs.Ytbnnmakmgleikaa
