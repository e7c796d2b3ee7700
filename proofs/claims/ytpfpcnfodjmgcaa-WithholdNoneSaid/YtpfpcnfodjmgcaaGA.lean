/-
  What is withheld, over a year: funds, dues, what came. Plain facts; no program is named here.
  A scheme's funds in cells: slices of structs of three ints; a year as a value.
  A year in a block of the call's own, its two lists rows of the call's own; calls that answer a year.
  What withhold.Right answers, over any scheme; whether an amount is near.
  What is paid into a fund, and what its employer owes it, of a right scheme.
  What withhold.Due answers, over any scheme and amounts.
-/
import Derived.Test.YtpfpcnfodjmgcaaBrMath2
import Derived.Test.YtpfpcnfodjmgcaaRecKit
import Derived.Test.YtpfpcnfodjmgcaaBrWords
import Derived.Test.YtpfpcnfodjmgcaaRateRight
import Derived.Test.YtpfpcnfodjmgcaaBoxKit
import Derived.Test.YtpfpcnfodjmgcaaRowsApart
import Derived.Test.YtpfpcnfodjmgcaaBrRight
import Derived.Deep.QuietTactic
import Derived.BigQuiet
import Derived.Test.YtpfpcnfodjmgcaaBrTax

namespace PWh

/-- A fund. -/
structure Fund where
  r : Int
  e : Int
  c : Int
def Ok (f : Fund) : Prop := (0 ≤ f.r ∧ f.r ≤ 10000) ∧ (0 ≤ f.e ∧ f.e ≤ 10000) ∧ 0 ≤ f.c
def In (f : Fund) : Prop := (-9223372036854775808 ≤ f.r ∧ f.r ≤ 9223372036854775807) ∧ (-9223372036854775808 ≤ f.e ∧ f.e ≤ 9223372036854775807) ∧ -9223372036854775808 ≤ f.c ∧ f.c ≤ 9223372036854775807
def OkTo (l : List Fund) (k : Nat) : Prop := ∀ i (h : i < l.length), i < k → Ok l[i]
/-- A scheme is right. -/
def Rt (a r : Nat → Int) (n : Nat) (l : List Fund) : Prop := PBr.Rt a r n ∧ l.length ≤ 6 ∧ OkTo l l.length
theorem OkTo.next {l : List Fund} {k : Nat} (h : OkTo l k) (hk : k < l.length) (h1 : Ok l[k]) : OkTo l (k + 1) := fun i hi h2 => by
  by_cases e : i = k
  · subst e; exact h1
  · exact h i hi (by omega)
/-- What counts of a base. -/
def cnt (b c : Int) : Int := min (max b 0) c
theorem cnt_range {b c : Int} (hc : 0 ≤ c) : 0 ≤ cnt b c ∧ cnt b c ≤ c ∧ (0 ≤ b → cnt b c ≤ b) := by unfold cnt; omega
theorem cnt_mono {b d c : Int} (h : b ≤ d) : cnt b c ≤ cnt d c := by unfold cnt; omega
/-- A fund's part. -/
def part (b R c : Int) : Nat := (cnt b c).toNat * R.toNat / 10000
theorem part_le {b R c : Int} (hR : R ≤ 10000) : part b R c ≤ (cnt b c).toNat := by
  unfold part
  have h1 : (cnt b c).toNat * R.toNat ≤ (cnt b c).toNat * 10000 := Nat.mul_le_mul_left _ (by omega)
  have h2 := Nat.div_le_div_right (c := 10000) h1
  rwa [Nat.mul_div_cancel _ (by omega)] at h2
theorem part_mono {b d R c : Int} (h : b ≤ d) : part b R c ≤ part d R c := by
  unfold part
  exact Nat.div_le_div_right (Nat.mul_le_mul_right _ (by have := cnt_mono (c := c) h; omega))
theorem part_low {b R c : Int} (hb : b ≤ 0) (hc : 0 ≤ c) : part b R c = 0 := by
  unfold part
  have : cnt b c = 0 := by unfold cnt; omega
  rw [this]; simp
theorem part_bound {b R c : Int} (hR : R ≤ 10000) (hc : c ≤ 9223372036854775807) (hc0 : 0 ≤ c) : part b R c ≤ 9223372036854775807 := by
  have := part_le (b := b) (c := c) hR
  have := (cnt_range (b := b) hc0).2.1
  omega
theorem part_below {b R c : Int} (hR : R ≤ 10000) (hb : 0 ≤ b) (hc : 0 ≤ c) : ((part b R c : Nat) : Int) ≤ b := by
  have := part_le (b := b) (c := c) hR
  have := cnt_range (b := b) hc
  have := this.2.2 hb
  omega
theorem part_ceil {b R c : Int} (hR : R ≤ 10000) (hc : 0 ≤ c) : ((part b R c : Nat) : Int) ≤ c := by
  have := part_le (b := b) (c := c) hR
  have := cnt_range (b := b) hc
  omega
/-- What all funds have of a base. -/
def paid (l : List Fund) (b : Int) : List Int := l.map (fun f => ((part b f.r f.c : Nat) : Int))
def owed (l : List Fund) (b : Int) : List Int := l.map (fun f => ((part b f.e f.c : Nat) : Int))
theorem paid_len (l : List Fund) (b : Int) : (paid l b).length = l.length := by simp [paid]
theorem owed_len (l : List Fund) (b : Int) : (owed l b).length = l.length := by simp [owed]
theorem paid_at {l : List Fund} {i : Nat} (h : i < l.length) (b : Int) : (paid l b).getD i 0 = ((part b l[i].r l[i].c : Nat) : Int) := by simp [paid, List.getD, h]
theorem owed_at {l : List Fund} {i : Nat} (h : i < l.length) (b : Int) : (owed l b).getD i 0 = ((part b l[i].e l[i].c : Nat) : Int) := by simp [owed, List.getD, h]
theorem take_next {l : List Int} {k : Nat} (h : k < l.length) : l.take (k + 1) = l.take k ++ [l.getD k 0] := by
  rw [List.take_succ_eq_append_getElem h]; simp [List.getD, h]
theorem paid_next {l : List Fund} {k : Nat} (h : k < l.length) (b : Int) : (paid l b).take (k + 1) = (paid l b).take k ++ [((part b l[k].r l[k].c : Nat) : Int)] := by
  rw [take_next (by rw [paid_len]; exact h), paid_at h]
theorem owed_next {l : List Fund} {k : Nat} (h : k < l.length) (b : Int) : (owed l b).take (k + 1) = (owed l b).take k ++ [((part b l[k].e l[k].c : Nat) : Int)] := by
  rw [take_next (by rw [owed_len]; exact h), owed_at h]
/-- A list, less another one's members, of which an empty one stands for noughts. -/
def less (l o : List Int) : List Int := (List.range l.length).map (fun i => l.getD i 0 - o.getD i 0)
theorem less_len (l o : List Int) : (less l o).length = l.length := by simp [less]
theorem less_at {l o : List Int} {i : Nat} (h : i < l.length) : (less l o).getD i 0 = l.getD i 0 - o.getD i 0 := by simp [less, List.getD, h]
theorem eq_of_getD {l m : List Int} (hl : l.length = m.length) (h : ∀ i, i < l.length → l.getD i 0 = m.getD i 0) : l = m := by
  apply List.ext_getElem hl
  intro i h1 h2
  have := h i h1
  simpa [List.getD, h1, h2] using this
/-- Numbers that can be taken off one another. -/
def Mid (x : Int) : Prop := -2305843009213693952 ≤ x ∧ x ≤ 2305843009213693952
def MidL (l : List Int) : Prop := ∀ i, i < l.length → Mid (l.getD i 0)
theorem MidL.at {l : List Int} (h : MidL l) (i : Nat) : Mid (l.getD i 0) := by
  by_cases e : i < l.length
  · exact h i e
  · have : l.getD i 0 = 0 := by simp [List.getD, Nat.le_of_not_lt e]
    rw [this]; unfold Mid; omega
theorem less_next {l o : List Int} {k : Nat} (h : k < l.length) : (less l o).take (k + 1) = (less l o).take k ++ [l.getD k 0 - o.getD k 0] := by
  rw [take_next (by rw [less_len]; exact h), less_at h]
theorem less_nil (l : List Int) : less l [] = l := eq_of_getD (less_len _ _) (fun i h => by
  rw [less_len] at h; rw [less_at h]; simp)
end PWh

namespace Go.Proofs.Ytpfpcnfodjmgcaa
open Go.RowKit

def fundR : Rec PWh.Fund where
  C f := [.int .i64 f.r, .int .i64 f.e, .int .i64 f.c]
  k := 3
  pos := by decide
  len _ := rfl
  one f u h := by simp at h; rcases h with rfl | rfl | rfl <;> rfl
/-- A slice of funds that reads as a list. -/
def SlF (w : World) (F : Option Addr) (m : Nat) (l : List PWh.Fund) : Prop := SlX fundR w F m l ∧ (∀ i (h : i < l.length), PWh.In l[i]) ∧ m ≤ 9223372036854775807
theorem SlF.on {w w' : World} {F : Option Addr} {m : Nat} {l : List PWh.Fund} (h : SlF w F m l) (hb : Below w.heap.size w w') : SlF w' F m l := ⟨h.1.on hb, h.2⟩
theorem SlF.len {w : World} {F : Option Addr} {m : Nat} {l : List PWh.Fund} (h : SlF w F m l) : l.length = m := h.1.1
theorem SlF.cells {w : World} {F : Option Addr} {m : Nat} {l : List PWh.Fund} (h : SlF w F m l) {i : Nat} (hi : i < m) :
    ∃ b off, F = some ⟨b, off, none⟩ ∧ ∀ k (hk : k < l.length), w.cell? ⟨b, off + k * 3, none⟩ = some (.int .i64 l[k].r) ∧ w.cell? ⟨b, off + k * 3 + 1, none⟩ = some (.int .i64 l[k].e) ∧ w.cell? ⟨b, off + k * 3 + 2, none⟩ = some (.int .i64 l[k].c) := by
  obtain ⟨b, off, e, hc⟩ := h.1.at hi
  exact ⟨b, off, e, fun k hk => ⟨hc k hk 0 _ rfl, hc k hk 1 _ rfl, hc k hk 2 _ rfl⟩⟩
/-- Three cells, in a greater world. -/
theorem keepc {w w' : World} {p : Addr} {u : Value} (hb : Below w.heap.size w w') (h : w.cell? p = some u) : w'.cell? p = some u := (hb.cell (World.block_lt_of_cell? w _ h)).trans h
theorem rright_at (b : Int) (w : World) (y : Bool) (hy : y = true ↔ 0 ≤ b ∧ b ≤ 10000) : Calls Try.prog 25 #[.int .i64 b] w fun e w' => e = .returned (.bool y) ∧ w = w' := by
  cases y with
  | true => exact rate_yes b w (hy.1 rfl)
  | false => exact rate_no b w (fun h => by have := hy.2 h; cases this)
end Go.Proofs.Ytpfpcnfodjmgcaa

namespace Go.Proofs.Ytpfpcnfodjmgcaa
open Go.RowKit

theorem keepc3 {w w' : World} {p q r : Addr} {u v x : Value} (hb : Below w.heap.size w w') (h : w.cell? p = some u ∧ w.cell? q = some v ∧ w.cell? r = some x) : w'.cell? p = some u ∧ w'.cell? q = some v ∧ w'.cell? r = some x :=
  ⟨keepc hb h.1, keepc hb h.2.1, keepc hb h.2.2⟩
theorem box2 {w : World} {H : Nat} {a b : Value} (h : Box w H [a, b]) : w.cell? ⟨H, 0, none⟩ = some a ∧ w.cell? ⟨H, 1, none⟩ = some b := ⟨h.c 0 rfl, h.c 1 rfl⟩
theorem box5 {w : World} {H : Nat} {a b c d e : Value} (h : Box w H [a, b, c, d, e]) : w.cell? ⟨H, 0, none⟩ = some a ∧ w.cell? ⟨H, 1, none⟩ = some b ∧ w.cell? ⟨H, 2, none⟩ = some c ∧ w.cell? ⟨H, 3, none⟩ = some d ∧ w.cell? ⟨H, 4, none⟩ = some e := ⟨h.c 0 rfl, h.c 1 rfl, h.c 2 rfl, h.c 3 rfl, h.c 4 rfl⟩
theorem box5f {w : World} {H : Nat} {a b c d e : Value} (h : Box w H [a, b, c, d, e]) : w.frozen? ⟨H, 0, none⟩ = false ∧ w.frozen? ⟨H, 1, none⟩ = false ∧ w.frozen? ⟨H, 2, none⟩ = false ∧ w.frozen? ⟨H, 3, none⟩ = false ∧ w.frozen? ⟨H, 4, none⟩ = false := ⟨h.f 0 rfl, h.f 1 rfl, h.f 2 rfl, h.f 3 rfl, h.f 4 rfl⟩
/-- All five cells are stored: the world behind. -/
theorem store5 {w : World} {H : Nat} {a b c d e : Value} (h : Box w H [a, b, c, d, e]) (a' b' c' d' e' : Value) :
    ∃ w', (((((w.setCell ⟨H, 0, none⟩ a').setCell ⟨H, 1, none⟩ b').setCell ⟨H, 2, none⟩ c').setCell ⟨H, 3, none⟩ d').setCell ⟨H, 4, none⟩ e') = w' ∧ Box w' H [a', b', c', d', e'] ∧ Only H w w' :=
  ⟨_, rfl, ((((h.set 0 (by simp) a').set 1 (by simp) b').set 2 (by simp) c').set 3 (by simp) d').set 4 (by simp) e', ((((((Only.refl H w).set 0 a').set 1 b').set 2 c').set 3 d').set 4 e')⟩
theorem store2 {w : World} {H : Nat} {a b : Value} (h : Box w H [a, b]) (a' b' : Value) :
    ∃ w', ((w.setCell ⟨H, 0, none⟩ a').setCell ⟨H, 1, none⟩ b') = w' ∧ Box w' H [a', b'] ∧ Only H w w' :=
  ⟨_, rfl, (h.set 0 (by simp) a').set 1 (by simp) b', (((Only.refl H w).set 0 a').set 1 b')⟩

/-- Three blocks are new: the world behind. -/
theorem enter3 (w : World) (t t2 t3 : TypeId) (vs zs ys : List Value) : ∃ w1, ((w.alloc (.cells vs.toArray t)).alloc (.cells zs.toArray t2)).alloc (.cells ys.toArray t3) = w1 ∧ Box w1 w.heap.size vs ∧ Box w1 (w.heap.size + 1) zs ∧ Box w1 (w.heap.size + 2) ys ∧ Below w.heap.size w w1 ∧ w1.heap.size = w.heap.size + 3 :=
  ⟨_, rfl, ((Box.new w t vs).alloc _).alloc _, (Box.new' _ t2 zs (by simp)).alloc _, Box.new' _ t3 ys (by simp), (((Below.refl _ _).alloc (Nat.le_refl _) _).alloc (by simp) _).alloc (by simp; omega) _, by simp⟩
theorem enter4 (w : World) (t t2 t3 t4 : TypeId) (vs zs ys xs : List Value) : ∃ w1, (((w.alloc (.cells vs.toArray t)).alloc (.cells zs.toArray t2)).alloc (.cells ys.toArray t3)).alloc (.cells xs.toArray t4) = w1 ∧ Box w1 w.heap.size vs ∧ Box w1 (w.heap.size + 1) zs ∧ Box w1 (w.heap.size + 2) ys ∧ Box w1 (w.heap.size + 3) xs ∧ Below w.heap.size w w1 ∧ w1.heap.size = w.heap.size + 4 :=
  ⟨_, rfl, (((Box.new w t vs).alloc _).alloc _).alloc _, ((Box.new' _ t2 zs (by simp)).alloc _).alloc _, (Box.new' _ t3 ys (by simp)).alloc _, Box.new' _ t4 xs (by simp), ((((Below.refl _ _).alloc (Nat.le_refl _) _).alloc (by simp) _).alloc (by simp; omega) _).alloc (by simp; omega) _, by simp⟩
/-- Two blocks of five cells are stored, one behind the other: the world behind. -/
theorem store55 {w : World} {H K : Nat} {a b c d e f g h i j : Value} (X : Box w H [a, b, c, d, e]) (Y : Box w K [f, g, h, i, j]) (hHK : H < K) (a' b' c' d' e' f' g' h' i' j' : Value) :
    ∃ w', ((((((((((w.setCell ⟨H, 0, none⟩ a').setCell ⟨H, 1, none⟩ b').setCell ⟨H, 2, none⟩ c').setCell ⟨H, 3, none⟩ d').setCell ⟨H, 4, none⟩ e').setCell ⟨K, 0, none⟩ f').setCell ⟨K, 1, none⟩ g').setCell ⟨K, 2, none⟩ h').setCell ⟨K, 3, none⟩ i').setCell ⟨K, 4, none⟩ j') = w' ∧
      Box w' H [a', b', c', d', e'] ∧ Box w' K [f', g', h', i', j'] ∧ (∀ {B : Nat} {w0 : World}, B ≤ H → Below B w0 w → Below B w0 w') := by
  obtain ⟨w1, h1, X1, O1⟩ := store5 X a' b' c' d' e'
  obtain ⟨w2, h2, Y2, O2⟩ := store5 (Y.only O1 (by omega)) f' g' h' i' j'
  refine ⟨w2, by rw [h1]; exact h2, X1.only O2 (by omega), Y2, fun hB hb => O2.below (by omega) (O1.below hB hb)⟩
/-- A slice as a value reads as a list. -/
def VSl (w : World) (v : Value) (l : List Int) : Prop := ∃ P cp, v = .slice P l.length cp ∧ (P = none → cp = 0) ∧ l.length ≤ cp ∧ Sl w P l.length l
theorem VSl.on {w w' : World} {v : Value} {l : List Int} (h : VSl w v l) (hb : Below w.heap.size w w') : VSl w' v l := by
  obtain ⟨P, cp, h1, h2, h3, h4⟩ := h; exact ⟨P, cp, h1, h2, h3, h4.on hb⟩
theorem vsl_nil (w : World) : VSl w (.slice none 0 0) [] := ⟨none, 0, rfl, fun _ => rfl, Nat.le_refl _, ⟨rfl, fun i hi => by simp at hi, by simp, .inl rfl⟩⟩
theorem vsl_of_own {w : World} {base n : Nat} {v : Value} {l : List Int} (h : w.ownsRow base 3 1 v n (cellsOfInts l)) (hs : In64 l) (hn : n ≤ 1000) : VSl w v l := by
  obtain ⟨A, cap, h1, h2, h3, _, h5⟩ := sl_of_own h hs (by omega)
  have hl := h5.1
  subst hl
  exact ⟨A, cap, h1, h2, h3, h5⟩
/-- A year as a value. -/
def yrV (t b x : Int) (p o : Value) : Value := .agg #[.int .i64 t, .int .i64 b, .int .i64 x, p, o]

theorem own_shape {w : World} {base e size n : Nat} {v : Value} {xs : List Value} (h : w.ownsRow base e size v n xs) : ∃ A cap, v = .slice A n cap := by
  rcases h.2 with ⟨rfl, rfl⟩ | ⟨g, cap, cur, rfl, _⟩
  · exact ⟨_, _, rfl⟩
  · exact ⟨_, _, rfl⟩
/-- A year in the block D, its lists rows at or behind 'base'. -/
structure YrB (w : World) (D base : Nat) (t b x : Int) (p o : Value) (lp lo : List Int) : Prop where
  box : Box w D [.int .i64 t, .int .i64 b, .int .i64 x, p, o]
  lt : D < base
  le : base ≤ w.heap.size
  own : w.ownsRow base 3 1 p lp.length (cellsOfInts lp)
  own' : w.ownsRow base 3 1 o lo.length (cellsOfInts lo)
  ap : Ap p o
theorem YrB.on {w w' : World} {D base : Nat} {t b x : Int} {p o : Value} {lp lo : List Int} (h : YrB w D base t b x p o lp lo) (hb : Below w.heap.size w w') : YrB w' D base t b x p o lp lo :=
  ⟨h.box.on hb, h.lt, Nat.le_trans h.le hb.size, own_below h.own hb, own_below h.own' hb, h.ap⟩
theorem YrB.start (w : World) (t : TypeId) (tx b x : Int) : YrB (w.alloc (.cells #[.int .i64 tx, .int .i64 b, .int .i64 x, .slice none 0 0, .slice none 0 0] t)) w.heap.size (w.heap.size + 1) tx b x (.slice none 0 0) (.slice none 0 0) [] [] :=
  ⟨Box.new w t [.int .i64 tx, .int .i64 b, .int .i64 x, .slice none 0 0, .slice none 0 0], by omega, by simp, ⟨rfl, .inl ⟨rfl, rfl⟩⟩, ⟨rfl, .inl ⟨rfl, rfl⟩⟩, ap_nil _⟩
theorem own_set {w : World} {B e size n D j : Nat} {v u : Value} {xs : List Value} (h : w.ownsRow B e size v n xs) (hD : D < B) : (w.setCell ⟨D, j, none⟩ u).ownsRow B e size v n xs := ownsRow_setCell_below h hD u
/-- One more in the first list: the row has grown, and is stored. -/
theorem YrB.push {w w' : World} {D base : Nat} {t b x : Int} {p o p' : Value} {lp lo : List Int} {d : Int} (h : YrB w D base t b x p o lp lo)
    (ho : w'.ownsRow base 3 1 p' (lp.length + 1) (cellsOfInts (lp ++ [d]))) (hb : Below base w w')
    (hk : ∀ u m l, w.ownsRow base 3 1 u m (cellsOfInts l) → Ap u p → w'.ownsRow base 3 1 u m (cellsOfInts l) ∧ Ap u p') :
    YrB (w'.setCell ⟨D, 3, none⟩ p') D base t b x p' o (lp ++ [d]) lo := by
  obtain ⟨k1, k2⟩ := hk _ _ _ h.own' h.ap.symm
  refine ⟨(h.box.keep hb h.lt).set 3 (by simp) p', h.lt, Nat.le_trans h.le (by simpa using hb.size), ?_, own_set k1 h.lt, k2.symm⟩
  have := own_set (j := 3) (u := p') ho h.lt
  simpa using this
theorem YrB.push' {w w' : World} {D base : Nat} {t b x : Int} {p o o' : Value} {lp lo : List Int} {d : Int} (h : YrB w D base t b x p o lp lo)
    (ho : w'.ownsRow base 3 1 o' (lo.length + 1) (cellsOfInts (lo ++ [d]))) (hb : Below base w w')
    (hk : ∀ u m l, w.ownsRow base 3 1 u m (cellsOfInts l) → Ap u o → w'.ownsRow base 3 1 u m (cellsOfInts l) ∧ Ap u o') :
    YrB (w'.setCell ⟨D, 4, none⟩ o') D base t b x p o' lp (lo ++ [d]) := by
  obtain ⟨k1, k2⟩ := hk _ _ _ h.own h.ap
  refine ⟨(h.box.keep hb h.lt).set 4 (by simp) o', h.lt, Nat.le_trans h.le (by simpa using hb.size), own_set k1 h.lt, ?_, k2⟩
  have := own_set (j := 4) (u := o') ho h.lt
  simpa using this
theorem YrB.far {w : World} {D base H j : Nat} {t b x : Int} {p o v : Value} {lp lo : List Int} (h : YrB w D base t b x p o lp lo) (hH : H < D) : YrB (w.setCell ⟨H, j, none⟩ v) D base t b x p o lp lo :=
  ⟨h.box.far (by simp; omega) v, h.lt, by simpa using h.le, own_set h.own (by have := h.lt; omega), own_set h.own' (by have := h.lt; omega), h.ap⟩
/-- A slice that lies in memory that is new since that world. -/
def Fresh (w : World) (v : Value) : Prop := ∀ ad n c, v = .slice (some ad) n c → w.heap.size ≤ ad.block
theorem fresh_nil (w : World) : Fresh w (.slice none 0 0) := fun ad n c e => by injection e with e; cases e
theorem fresh_own {w w' : World} {base e k n : Nat} {v : Value} {xs : List Value} (h : w'.ownsRow base e k v n xs) (hb : w.heap.size ≤ base) : Fresh w v := by
  intro ad n' c e'
  rcases h.2 with ⟨h, _⟩ | ⟨g, cap, cur, h, hg, _⟩
  · rw [h] at e'; injection e' with e'; cases e'
  · rw [h] at e'; injection e' with e'; injection e' with e'; rw [← e']; exact Nat.le_trans hb hg
theorem Fresh.older {w w0 : World} {v : Value} (h : Fresh w v) (hs : w0.heap.size ≤ w.heap.size) : Fresh w0 v := fun ad n c e => Nat.le_trans hs (h ad n c e)
/-- A call that answers a year and an error. -/
def YrR (t b x : Int) (lp lo : List Int) (err : Int) (w : World) (e : Ending) (w' : World) : Prop := ∃ p o, e = .returned (.tuple #[yrV t b x p o, .int .i64 err]) ∧ VSl w' p lp ∧ VSl w' o lo ∧ Below w.heap.size w w' ∧ Fresh w p ∧ Fresh w o
/-- .. two years and an error. -/
def StpR (t b x : Int) (lp lo : List Int) (t' b' x' : Int) (lp' lo' : List Int) (err : Int) (w : World) (e : Ending) (w' : World) : Prop := ∃ p o p' o', e = .returned (.tuple #[yrV t b x p o, yrV t' b' x' p' o', .int .i64 err]) ∧ VSl w' p lp ∧ VSl w' o lo ∧ VSl w' p' lp' ∧ VSl w' o' lo' ∧ Below w.heap.size w w' ∧ Fresh w p ∧ Fresh w o ∧ Fresh w p' ∧ Fresh w o'
theorem stpR_zero {w w' : World} (err : Int) (h : Below w.heap.size w w') : StpR 0 0 0 [] [] 0 0 0 [] [] err w (.returned (.tuple #[.agg #[.int .i64 0, .int .i64 0, .int .i64 0, .slice none 0 0, .slice none 0 0], .agg #[.int .i64 0, .int .i64 0, .int .i64 0, .slice none 0 0, .slice none 0 0], .int .i64 err])) w' :=
  ⟨_, _, _, _, rfl, vsl_nil _, vsl_nil _, vsl_nil _, vsl_nil _, h, fresh_nil _, fresh_nil _, fresh_nil _, fresh_nil _⟩
/-- .. a year alone. -/
def YrR1 (t b x : Int) (lp lo : List Int) (w : World) (e : Ending) (w' : World) : Prop := ∃ p o, e = .returned (yrV t b x p o) ∧ VSl w' p lp ∧ VSl w' o lo ∧ Below w.heap.size w w' ∧ Fresh w p ∧ Fresh w o
end Go.Proofs.Ytpfpcnfodjmgcaa

namespace Go.Proofs.Ytpfpcnfodjmgcaa
open Go.RowKit

/-- An amount that is near. -/
def Nr (x : Int) : Prop := -1125899906842624 ≤ x ∧ x ≤ 1125899906842624
theorem near_any (x : Int) (w : World) (y : Bool) (hy : y = true ↔ Nr x) : Calls Try.prog 20 #[.int .i64 x] w fun e w' => e = .returned (.bool y) ∧ w = w' := by
  unfold Nr at hy
  by_cases h0 : -1125899906842624 ≤ x
  · by_cases h1 : x ≤ 1125899906842624
    · obtain rfl : y = true := hy.2 ⟨h0, h1⟩
      clear hy
      go_enter Try.func20, Try.ntmps20
      go_wp2_with fail
      go_ret
      exact ⟨by simp, rfl⟩
    · obtain rfl : y = false := Bool.eq_false_iff.2 (fun h => h1 (hy.1 h).2)
      have h2 : 1125899906842624 < x := by omega
      clear hy h1
      go_enter Try.func20, Try.ntmps20
      go_wp2_with fail
      go_ret
      exact ⟨by first | rfl | (simp; done) | (simp; omega), rfl⟩
  · obtain rfl : y = false := Bool.eq_false_iff.2 (fun h => h0 (hy.1 h).1)
    have h2 : x < -1125899906842624 := by omega
    clear hy h0
    go_enter Try.func20, Try.ntmps20
    go_wp2_with fail
    go_ret
    exact ⟨by first | rfl | (simp; done) | (simp; omega), rfl⟩

set_option maxHeartbeats 3200000 in
set_option maxRecDepth 100000 in
theorem wright_any {A F : Option Addr} {n ca m cf : Nat} {a r : Nat → Int} {l : List PWh.Fund} {w : World} {bb : Bool} (hA : SlP w A n a r) (hF : SlF w F m l) (hb : bb = true ↔ PWh.Rt a r n l) :
    Calls Try.prog 14 #[.agg #[.slice A n ca, .slice F m cf]] w fun e w' => e = .returned (.bool bb) ∧ Below w.heap.size w w' := by
  obtain ⟨B1, hB1⟩ : ∃ B1 : Bool, B1 = true ↔ PBr.Rt a r n := by
    by_cases h : PBr.Rt a r n
    · exact ⟨true, fun _ => h, fun _ => rfl⟩
    · exact ⟨false, (fun k => by cases k), fun k => absurd k h⟩
  have HR : Hid (∀ w, SlP w A n a r → Calls Try.prog 24 #[.slice A n ca] w fun e w' => e = .returned (.bool B1) ∧ Below w.heap.size w w') := Lib.hid (fun w h => bright_any h hB1)
  have HA := Lib.hid hA; have HF := Lib.hid hF; have HB := Lib.hid hb; have H1 := Lib.hid hB1
  have hm := hF.2.2
  have hl := Lib.hid hF.len
  clear hA hF hb hB1
  cases B1 with
  | false =>
    have HX : Hid (bb = false) := Lib.hid (Bool.eq_false_iff.2 (fun h => by have := H1.out.2 (HB.out.1 h).1; cases this))
    go_enter Try.func14, Try.ntmps14
    go_wp2_with fail
    refine (HR.out _ (HA.out.on ((Below.refl _ _).alloc (Nat.le_refl _) _))).mono ?_
    rintro _ w1 ⟨rfl, b1⟩
    have B1 := Lib.hid (below_step ((Below.refl w.heap.size w).alloc (Nat.le_refl _) _) b1)
    clear b1
    go_wp2_with fail
    go_ret
    exact ⟨by rw [HX.out]; rfl, B1.out⟩
  | true =>
    have b0 := H1.out.1 rfl
    have B0 := Lib.hid b0
    clear b0 H1
    by_cases h6 : 6 < m
    · have HX : Hid (bb = false) := Lib.hid (Bool.eq_false_iff.2 (fun h => by have := (HB.out.1 h).2.1; have := hl.out; omega))
      have i6 : (6 : Int) < (m : Int) := by omega
      go_enter Try.func14, Try.ntmps14
      go_wp2_with fail
      refine (HR.out _ (HA.out.on ((Below.refl _ _).alloc (Nat.le_refl _) _))).mono ?_
      rintro _ w1 ⟨rfl, b1⟩
      have k0 := keepc b1 (show (w.alloc (.cells #[.slice A n ca, .slice F m cf] 25)).cell? ⟨w.heap.size, 1, none⟩ = some (.slice F m cf) by go_simp)
      have B1 := Lib.hid (below_step ((Below.refl w.heap.size w).alloc (Nat.le_refl _) _) b1)
      clear b1
      go_wp2_with fail
      go_ret
      exact ⟨by rw [HX.out]; rfl, B1.out⟩
    · have i6 : ¬ (6 : Int) < (m : Int) := by omega
      go_enter Try.func14, Try.ntmps14
      go_wp2_with fail
      refine (HR.out _ (HA.out.on ((Below.refl _ _).alloc (Nat.le_refl _) _))).mono ?_
      rintro _ w1 ⟨rfl, b1⟩
      have k0 := keepc b1 (show (w.alloc (.cells #[.slice A n ca, .slice F m cf] 25)).cell? ⟨w.heap.size, 1, none⟩ = some (.slice F m cf) by go_simp)
      have B1 := Lib.hid (below_step ((Below.refl w.heap.size w).alloc (Nat.le_refl _) _) b1)
      clear b1
      go_wp2_with fail
      go_loopw [18] (fun i wr => ∃ (k : Nat), k ≤ m ∧ i = .int .i64 k ∧ Hid (PWh.OkTo l k) ∧ Hid (Below w.heap.size w wr)) (fun i _ => m - (intOf i).toNat)
      case atStart => exact ⟨0, Nat.zero_le _, rfl, (show Hid _ from fun i _ hi => by omega), B1⟩
      case round =>
        clear k0 B1
        obtain ⟨k, hk, rfl, HK, HW⟩ := hrel
        by_cases hlt : k < m
        · obtain ⟨b, off, rfl, hc⟩ := HF.out.cells hlt
          have hkl : k < l.length := by rw [hl.out]; exact hlt
          obtain ⟨c1, c2, c3⟩ := hc k hkl
          replace c1 := (HW.out.cell (World.block_lt_of_cell? w _ c1)).trans c1
          replace c2 := (HW.out.cell (World.block_lt_of_cell? w _ c2)).trans c2
          replace c3 := (HW.out.cell (World.block_lt_of_cell? w _ c3)).trans c3
          have HL := Lib.hid (show l[k] = l[k] from rfl)
          obtain ⟨f, hf⟩ : ∃ f, l[k] = f := ⟨_, rfl⟩
          rw [hf] at c1 c2 c3
          have HFk := Lib.hid hf
          obtain ⟨x, y, z⟩ := f
          dsimp only at c1 c2 c3
          have i1 : (0 : Int) ≤ (k : Int) := by omega
          have i2 : (k : Int) < (m : Int) := by omega
          obtain ⟨Y1, hY1⟩ : ∃ Y, decide (0 ≤ x ∧ x ≤ 10000) = Y := ⟨_, rfl⟩
          obtain ⟨Y2, hY2⟩ : ∃ Y, decide (0 ≤ y ∧ y ≤ 10000) = Y := ⟨_, rfl⟩
          have R1 : Hid (∀ w', Calls Try.prog 25 #[.int .i64 x] w' fun e w'' => e = .returned (.bool Y1) ∧ w' = w'') := Lib.hid (fun w' => rright_at x w' _ (by rw [← hY1]; simp))
          have R2 : Hid (∀ w', Calls Try.prog 25 #[.int .i64 y] w' fun e w'' => e = .returned (.bool Y2) ∧ w' = w'') := Lib.hid (fun w' => rright_at y w' _ (by rw [← hY2]; simp))
          have HN : Hid (Y1 = true → Y2 = true → 0 ≤ z → PWh.OkTo l (k + 1)) := Lib.hid (fun h1 h2 h3 => HK.out.next hkl (by rw [HFk.out]; rw [h1] at hY1; rw [h2] at hY2; exact ⟨of_decide_eq_true hY1, of_decide_eq_true hY2, h3⟩))
          have HX : Hid (bb = true → Y1 = true ∧ Y2 = true ∧ 0 ≤ z) := Lib.hid (fun h => by
            have := (HB.out.1 h).2.2 k hkl hkl
            rw [HFk.out] at this
            obtain ⟨q1, q2, q3⟩ := this
            exact ⟨by rw [← hY1]; exact decide_eq_true q1, by rw [← hY2]; exact decide_eq_true q2, q3⟩)
          clear hf hY1 hY2 HL hc HFk
          cases Y1 with
          | false =>
            have HZ : Hid (bb = false) := Lib.hid (Bool.eq_false_iff.2 (fun h => by have := (HX.out h).1; cases this))
            go_wp2_with fail
            refine (R1.out _).mono ?_
            rintro _ _ ⟨rfl, rfl⟩
            go_wp2_with fail
            go_ret
            exact ⟨by rw [HZ.out]; rfl, HW.out.alloc HW.out.size _⟩
          | true =>
            cases Y2 with
            | false =>
              have HZ : Hid (bb = false) := Lib.hid (Bool.eq_false_iff.2 (fun h => by have := (HX.out h).2.1; cases this))
              go_wp2_with fail
              refine (R1.out _).mono ?_
              rintro _ _ ⟨rfl, rfl⟩
              go_wp2_with fail
              refine (R2.out _).mono ?_
              rintro _ _ ⟨rfl, rfl⟩
              go_wp2_with fail
              go_ret
              exact ⟨by rw [HZ.out]; rfl, HW.out.alloc HW.out.size _⟩
            | true =>
              by_cases hz : z < 0
              · have HZ : Hid (bb = false) := Lib.hid (Bool.eq_false_iff.2 (fun h => by have := (HX.out h).2.2; omega))
                go_wp2_with fail
                refine (R1.out _).mono ?_
                rintro _ _ ⟨rfl, rfl⟩
                go_wp2_with fail
                refine (R2.out _).mono ?_
                rintro _ _ ⟨rfl, rfl⟩
                go_wp2_with fail
                go_ret
                exact ⟨by rw [HZ.out]; rfl, HW.out.alloc HW.out.size _⟩
              · have HN2 := Lib.hid (HN.out rfl rfl (by omega))
                go_wp2_with fail
                refine (R1.out _).mono ?_
                rintro _ _ ⟨rfl, rfl⟩
                go_wp2_with fail
                refine (R2.out _).mono ?_
                rintro _ _ ⟨rfl, rfl⟩
                go_wp2_with fail
                exact ⟨⟨k + 1, by omega, by congr 1, HN2, Lib.hid (HW.out.alloc HW.out.size _)⟩, by simp [intOf]; omega⟩
        · obtain rfl : k = m := by omega
          have HZ : Hid (bb = true) := Lib.hid (HB.out.2 ⟨B0.out, by rw [hl.out]; omega, by rw [hl.out]; exact HK.out⟩)
          go_wp2_with fail
          go_ret
          exact ⟨by rw [HZ.out]; rfl, HW.out⟩
end Go.Proofs.Ytpfpcnfodjmgcaa

namespace Go.Proofs.Ytpfpcnfodjmgcaa
open Go.RowKit

theorem of_part {k R : Int} (hR : 0 ≤ R ∧ R ≤ 10000) (hk : 0 ≤ k ∧ k ≤ 9223372036854775807) (w : World) :
    Calls Try.prog 31 #[.int .i64 k, .int .i64 R, .int .i64 0] w fun e w' => e = .returned (.tuple #[.int .i64 ((k.toNat * R.toNat / 10000 : Nat) : Int), .int .i64 0]) ∧ Below w.heap.size w w' := by
  obtain ⟨P, rfl⟩ : ∃ P : Nat, k = (P : Int) := ⟨k.toNat, by omega⟩
  obtain ⟨Q, rfl⟩ : ∃ P : Nat, R = (P : Int) := ⟨R.toNat, by omega⟩
  rw [Int.toNat_natCast, Int.toNat_natCast]
  have h1 : P * Q ≤ P * 10000 := Nat.mul_le_mul_left _ (by omega)
  have h2 := Nat.div_le_div_right (c := 10000) h1
  rw [Nat.mul_div_cancel _ (by omega)] at h2
  exact of_at (PBr.of_down (P := P) (R := Q) (by omega) (by omega)) (by omega) (by omega) w

theorem wparts_any (b x y c : Int) (w : World) (hx : 0 ≤ x ∧ x ≤ 10000) (hy : 0 ≤ y ∧ y ≤ 10000) (hc : 0 ≤ c ∧ c ≤ 9223372036854775807) :
    Calls Try.prog 22 #[.agg #[.int .i64 x, .int .i64 y, .int .i64 c], .int .i64 b] w fun e w' => e = .returned (.tuple #[.int .i64 (PWh.part b x c : Nat), .int .i64 (PWh.part b y c : Nat), .int .i64 0]) ∧ Below w.heap.size w w' := by
  have hr := PWh.cnt_range (b := b) hc.1
  have H1 : Hid (∀ w, Calls Try.prog 31 #[.int .i64 (PWh.cnt b c), .int .i64 x, .int .i64 0] w fun e w' => e = .returned (.tuple #[.int .i64 (PWh.part b x c : Nat), .int .i64 0]) ∧ Below w.heap.size w w') := Lib.hid (fun w => of_part hx ⟨hr.1, by omega⟩ w)
  have H2 : Hid (∀ w, Calls Try.prog 31 #[.int .i64 (PWh.cnt b c), .int .i64 y, .int .i64 0] w fun e w' => e = .returned (.tuple #[.int .i64 (PWh.part b y c : Nat), .int .i64 0]) ∧ Below w.heap.size w w') := Lib.hid (fun w => of_part hy ⟨hr.1, by omega⟩ w)
  obtain ⟨p, hp⟩ : ∃ p, PWh.part b x c = p := ⟨_, rfl⟩
  obtain ⟨q, hq⟩ : ∃ p, PWh.part b y c = p := ⟨_, rfl⟩
  obtain ⟨k, hk⟩ : ∃ k, PWh.cnt b c = k := ⟨_, rfl⟩
  rw [hp, hk] at H1; rw [hq, hk] at H2; rw [hp, hq]
  clear hr hp hq hx hy hc
  unfold PWh.cnt at hk
  go_enter Try.func22, Try.ntmps22
  go_wp2_with fail
  refine (H1.out _).mono ?_
  rintro _ w1 ⟨rfl, b1⟩
  have k1 := keepc b1 (show (w.alloc (.cells #[.int .i64 x, .int .i64 y, .int .i64 c] 56)).cell? ⟨w.heap.size, 1, none⟩ = some (.int .i64 y) by go_simp)
  have B1 := Lib.hid (below_step ((Below.refl w.heap.size w).alloc (Nat.le_refl _) _) b1)
  clear b1
  go_wp2_with fail
  refine (H2.out _).mono ?_
  rintro _ w2 ⟨rfl, b2⟩
  have B2 := Lib.hid (below_step B1.out b2)
  clear b2
  go_wp2_with fail
  first | go_ret3 | go_ret2
  exact ⟨rfl, B2.out⟩
end Go.Proofs.Ytpfpcnfodjmgcaa

namespace Go.Proofs.Ytpfpcnfodjmgcaa
open Go.RowKit

theorem in64_take {l : List Int} (h : In64 l) (k : Nat) : In64 (l.take k) := by
  intro i hi
  have hi' : i < l.length := by rw [List.length_take] at hi; omega
  have hik : i < k := by rw [List.length_take] at hi; omega
  have := h i hi'
  simpa [List.getD, hik] using this
theorem in64_paid {l : List PWh.Fund} (h : PWh.OkTo l l.length) (hi : ∀ i (h : i < l.length), PWh.In l[i]) (b : Int) : In64 (PWh.paid l b) := by
  intro i hl
  rw [PWh.paid_len] at hl
  rw [PWh.paid_at hl]
  have := PWh.part_bound (b := b) (h i hl hl).1.2 (hi i hl).2.2.2 (h i hl hl).2.2
  omega
theorem in64_owed {l : List PWh.Fund} (h : PWh.OkTo l l.length) (hi : ∀ i (h : i < l.length), PWh.In l[i]) (b : Int) : In64 (PWh.owed l b) := by
  intro i hl
  rw [PWh.owed_len] at hl
  rw [PWh.owed_at hl]
  have := PWh.part_bound (b := b) (h i hl hl).2.1.2 (hi i hl).2.2.2 (h i hl hl).2.2
  omega
theorem yrR_zero {w w' : World} (err : Int) (h : Below w.heap.size w w') : YrR 0 0 0 [] [] err w (.returned (.tuple #[.agg #[.int .i64 0, .int .i64 0, .int .i64 0, .slice none 0 0, .slice none 0 0], .int .i64 err])) w' :=
  ⟨_, _, rfl, vsl_nil _, vsl_nil _, h, fresh_nil _, fresh_nil _⟩

set_option maxHeartbeats 3200000 in
set_option maxRecDepth 100000 in
theorem wdue_wrong {A F : Option Addr} {n ca m cf : Nat} {a r : Nat → Int} {l : List PWh.Fund} {w : World} {t b : Int} (hA : SlP w A n a r) (hF : SlF w F m l) (hR : ¬ PWh.Rt a r n l) :
    Calls Try.prog 11 #[.agg #[.slice A n ca, .slice F m cf], .int .i64 t, .int .i64 b] w (YrR 0 0 0 [] [] 1 w) := by
  have HR : Hid (∀ w', Below w.heap.size w w' → Calls Try.prog 14 #[.agg #[.slice A n ca, .slice F m cf]] w' fun e w'' => e = .returned (.bool false) ∧ Below w'.heap.size w' w'') := Lib.hid (fun w' h => wright_any (hA.on h) (hF.on h) ⟨fun k => (by cases k), fun k => absurd k hR⟩)
  clear hA hF hR
  go_enter Try.func11, Try.ntmps11
  go_upto_region 1 with fail
  obtain ⟨w1, hw1, XS, XZ, b1, hs1⟩ := enter2 w 25 30 [.slice A n ca, .slice F m cf] [.int .i64 0, .int .i64 0, .int .i64 0, .slice none 0 0, .slice none 0 0]
  rw [hw1]
  obtain ⟨L, hL⟩ : ∃ L, w.heap.size = L := ⟨_, rfl⟩
  rw [hL] at XS XZ hs1 ⊢
  have XS1 := Lib.hid XS; have XZ1 := Lib.hid XZ; have B1 := Lib.hid b1; have HLw := Lib.hid hL
  clear hw1 hL b1 XS XZ hs1
  obtain ⟨c0, c1⟩ := box2 XS1.out
  go_wp2_with fail
  refine (HR.out _ B1.out).mono ?_
  rintro _ w2 ⟨rfl, b2⟩
  have XS2 := Lib.hid (XS1.out.on b2); have XZ2 := Lib.hid (XZ1.out.on b2); have B2 := Lib.hid (below_step B1.out b2)
  clear b2 XS1 XZ1 B1 c0 c1
  obtain ⟨f0, f1, f2, f3, f4⟩ := box5f XZ2.out
  obtain ⟨e0, e1, e2, e3, e4⟩ := box5 XZ2.out
  obtain ⟨wz, hw, rb, ON⟩ := store5 XZ2.out (.int .i64 0) (.int .i64 0) (.int .i64 0) (.slice none 0 0) (.slice none 0 0)
  obtain ⟨k0', k1', k2', k3', k4'⟩ := box5 rb
  rw [← hw] at k0' k1' k2' k3' k4'
  have HW := Lib.hid hw
  have BZ := Lib.hid (ON.below (Nat.le_succ L) (HLw.out ▸ B2.out))
  clear hw rb ON
  go_wp2_with fail
  (try simp only [Exit.inBlock, Exit.then])
  refine bodyPost_ret (by simp [results, Try.results11, go_sem, k0', k1', k2', k3', k4']; try rfl) rfl ?_
  rw [HW.out]
  exact yrR_zero 1 (by rw [HLw.out]; exact BZ.out)

set_option maxHeartbeats 3200000 in
set_option maxRecDepth 100000 in
theorem wdue_far {A F : Option Addr} {n ca m cf : Nat} {a r : Nat → Int} {l : List PWh.Fund} {w : World} {t b : Int} (hA : SlP w A n a r) (hF : SlF w F m l) (hR : PWh.Rt a r n l) (ht : ¬ (Nr t ∧ Nr b)) :
    Calls Try.prog 11 #[.agg #[.slice A n ca, .slice F m cf], .int .i64 t, .int .i64 b] w (YrR 0 0 0 [] [] 3 w) := by
  have HR : Hid (∀ w', Below w.heap.size w w' → Calls Try.prog 14 #[.agg #[.slice A n ca, .slice F m cf]] w' fun e w'' => e = .returned (.bool true) ∧ Below w'.heap.size w' w'') := Lib.hid (fun w' h => wright_any (hA.on h) (hF.on h) ⟨fun _ => hR, fun _ => rfl⟩)
  clear hA hF hR
  obtain ⟨y1, h1⟩ : ∃ y : Bool, y = true ↔ Nr t := by
    by_cases h : Nr t
    · exact ⟨true, fun _ => h, fun _ => rfl⟩
    · exact ⟨false, (fun k => by cases k), fun k => absurd k h⟩
  obtain ⟨y2, h2⟩ : ∃ y : Bool, y = true ↔ Nr b := by
    by_cases h : Nr b
    · exact ⟨true, fun _ => h, fun _ => rfl⟩
    · exact ⟨false, (fun k => by cases k), fun k => absurd k h⟩
  have N1 : Hid (∀ w, Calls Try.prog 20 #[.int .i64 t] w fun e w' => e = .returned (.bool y1) ∧ w = w') := Lib.hid (fun w => near_any t w y1 h1)
  have N2 : Hid (∀ w, Calls Try.prog 20 #[.int .i64 b] w fun e w' => e = .returned (.bool y2) ∧ w = w') := Lib.hid (fun w => near_any b w y2 h2)
  have H12 := Lib.hid (show ¬ (y1 = true ∧ y2 = true) from fun h => ht ⟨h1.1 h.1, h2.1 h.2⟩)
  clear h1 h2 ht
  go_enter Try.func11, Try.ntmps11
  go_upto_region 1 with fail
  obtain ⟨w1, hw1, XS, XZ, b1, hs1⟩ := enter2 w 25 30 [.slice A n ca, .slice F m cf] [.int .i64 0, .int .i64 0, .int .i64 0, .slice none 0 0, .slice none 0 0]
  rw [hw1]
  obtain ⟨L, hL⟩ : ∃ L, w.heap.size = L := ⟨_, rfl⟩
  rw [hL] at XS XZ hs1 ⊢
  have XS1 := Lib.hid XS; have XZ1 := Lib.hid XZ; have B1 := Lib.hid b1; have HLw := Lib.hid hL
  clear hw1 hL b1 XS XZ hs1
  obtain ⟨c0, c1⟩ := box2 XS1.out
  go_wp2_with fail
  refine (HR.out _ B1.out).mono ?_
  rintro _ w2 ⟨rfl, b2⟩
  have XS2 := Lib.hid (XS1.out.on b2); have XZ2 := Lib.hid (XZ1.out.on b2); have B2 := Lib.hid (below_step B1.out b2)
  clear b2 XS1 XZ1 B1 c0 c1
  cases y1 with
  | false =>
    go_upto_region 4 with ((go_at_call 20; refine (N1.out _).mono ?_; rintro _ _ ⟨rfl, rfl⟩))
    obtain ⟨f0, f1, f2, f3, f4⟩ := box5f XZ2.out
    obtain ⟨e0, e1, e2, e3, e4⟩ := box5 XZ2.out
    obtain ⟨wz, hw, rb, ON⟩ := store5 XZ2.out (.int .i64 0) (.int .i64 0) (.int .i64 0) (.slice none 0 0) (.slice none 0 0)
    obtain ⟨k0', k1', k2', k3', k4'⟩ := box5 rb
    rw [← hw] at k0' k1' k2' k3' k4'
    have HW := Lib.hid hw
    have BZ := Lib.hid (ON.below (Nat.le_succ L) (HLw.out ▸ B2.out))
    clear hw rb ON
    go_wp2_with fail
    (try simp only [Exit.inBlock, Exit.then])
    refine bodyPost_ret (by simp [results, Try.results11, go_sem, k0', k1', k2', k3', k4']; try rfl) rfl ?_
    rw [HW.out]
    exact yrR_zero 3 (by rw [HLw.out]; exact BZ.out)
  | true =>
    cases y2 with
    | false =>
      go_upto_region 4 with (first | (go_at_call 20; (with_reducible refine (N1.out _).mono ?_); rintro _ _ ⟨rfl, rfl⟩) | (go_at_call 20; refine (N2.out _).mono ?_; rintro _ _ ⟨rfl, rfl⟩))
      obtain ⟨f0, f1, f2, f3, f4⟩ := box5f XZ2.out
      obtain ⟨e0, e1, e2, e3, e4⟩ := box5 XZ2.out
      obtain ⟨wz, hw, rb, ON⟩ := store5 XZ2.out (.int .i64 0) (.int .i64 0) (.int .i64 0) (.slice none 0 0) (.slice none 0 0)
      obtain ⟨k0', k1', k2', k3', k4'⟩ := box5 rb
      rw [← hw] at k0' k1' k2' k3' k4'
      have HW := Lib.hid hw
      have BZ := Lib.hid (ON.below (Nat.le_succ L) (HLw.out ▸ B2.out))
      clear hw rb ON
      go_wp2_with fail
      (try simp only [Exit.inBlock, Exit.then])
      refine bodyPost_ret (by simp [results, Try.results11, go_sem, k0', k1', k2', k3', k4']; try rfl) rfl ?_
      rw [HW.out]
      exact yrR_zero 3 (by rw [HLw.out]; exact BZ.out)
    | true => exact absurd ⟨rfl, rfl⟩ H12.out

set_option maxHeartbeats 6400000 in
set_option maxRecDepth 100000 in
theorem wdue_yes {A F : Option Addr} {n ca m cf : Nat} {a r : Nat → Int} {l : List PWh.Fund} {w : World} {t b : Int} (hA : SlP w A n a r) (hF : SlF w F m l) (hR : PWh.Rt a r n l) (ht : Nr t) (hb : Nr b) :
    Calls Try.prog 11 #[.agg #[.slice A n ca, .slice F m cf], .int .i64 t, .int .i64 b] w (YrR t b (PBr.tax a r n t : Nat) (PWh.paid l b) (PWh.owed l b) 0 w) := by
  have HR : Hid (∀ w', Below w.heap.size w w' → Calls Try.prog 14 #[.agg #[.slice A n ca, .slice F m cf]] w' fun e w'' => e = .returned (.bool true) ∧ Below w'.heap.size w' w'') := Lib.hid (fun w' h => wright_any (hA.on h) (hF.on h) ⟨fun _ => hR, fun _ => rfl⟩)
  have N1 : Hid (∀ w, Calls Try.prog 20 #[.int .i64 t] w fun e w' => e = .returned (.bool true) ∧ w = w') := Lib.hid (fun w => near_any t w true ⟨fun _ => ht, fun _ => rfl⟩)
  have N2 : Hid (∀ w, Calls Try.prog 20 #[.int .i64 b] w fun e w' => e = .returned (.bool true) ∧ w = w') := Lib.hid (fun w => near_any b w true ⟨fun _ => hb, fun _ => rfl⟩)
  have HT : Hid (∀ w', Below w.heap.size w w' → Calls Try.prog 21 #[.slice A n ca, .int .i64 t] w' fun e w'' => e = .returned (.tuple #[.int .i64 (PBr.tax a r n t : Nat), .int .i64 0]) ∧ Below w'.heap.size w' w'') := Lib.hid (fun w' h => btax_yes (hA.on h) hR.1 (by have := ht.1; omega) (by have := ht.2; omega))
  have HF := Lib.hid hF; have HRt := Lib.hid hR
  have HI := Lib.hid hF.2.1
  have hl := Lib.hid hF.len
  have hm6 : m ≤ 6 := by have := hR.2.1; have := hl.out; omega
  obtain ⟨T, hT⟩ : ∃ T, PBr.tax a r n t = T := ⟨_, rfl⟩
  rw [hT] at HT ⊢
  clear hA hF hR ht hb hT
  go_enter Try.func11, Try.ntmps11
  go_upto_region 1 with fail
  obtain ⟨w1, hw1, XS, XZ, b1, hs1⟩ := enter2 w 25 30 [.slice A n ca, .slice F m cf] [.int .i64 0, .int .i64 0, .int .i64 0, .slice none 0 0, .slice none 0 0]
  rw [hw1]
  obtain ⟨L, hL⟩ : ∃ L, w.heap.size = L := ⟨_, rfl⟩
  rw [hL] at XS XZ hs1 ⊢
  have XS1 := Lib.hid XS; have XZ1 := Lib.hid XZ; have B1 := Lib.hid b1; have HLw := Lib.hid hL
  clear hw1 hL b1 XS XZ hs1
  obtain ⟨c0, c1⟩ := box2 XS1.out
  go_wp2_with fail
  refine (HR.out _ B1.out).mono ?_
  rintro _ w2 ⟨rfl, b2⟩
  have XS2 := Lib.hid (XS1.out.on b2); have XZ2 := Lib.hid (XZ1.out.on b2); have B2 := Lib.hid (below_step B1.out b2)
  clear b2 XS1 XZ1 B1 c0 c1
  go_upto_region 5 with (first | (go_at_call 20; (with_reducible refine (N1.out _).mono ?_); rintro _ _ ⟨rfl, rfl⟩) | (go_at_call 20; refine (N2.out _).mono ?_; rintro _ _ ⟨rfl, rfl⟩))
  obtain ⟨c0, c1⟩ := box2 XS2.out
  go_wp2_with fail
  refine (HT.out _ B2.out).mono ?_
  rintro _ w3 ⟨rfl, b3⟩
  have XS3 := Lib.hid (XS2.out.on b3); have XZ3 := Lib.hid (XZ2.out.on b3); have B3 := Lib.hid (below_step B2.out b3)
  clear b3 XS2 XZ2 B2 c0 c1 HT HR N1 N2
  obtain ⟨c0, c1⟩ := box2 XS3.out
  go_upto_region 9 with fail
  have YB := YrB.start w3 30 t b (T : Int)
  have b4 : Below w3.heap.size w3 (w3.alloc (.cells #[.int .i64 t, .int .i64 b, .int .i64 (T : Int), .slice none 0 0, .slice none 0 0] 30)) := (Below.refl _ _).alloc (Nat.le_refl _) _
  have hLD : L + 1 < w3.heap.size := XZ3.out.1
  obtain ⟨D, hD⟩ : ∃ D, w3.heap.size = D := ⟨_, rfl⟩
  have XS4 := Lib.hid (XS3.out.on b4); have XZ4 := Lib.hid (XZ3.out.on b4); have B4 := Lib.hid (below_step B3.out b4)
  rw [hD] at YB hLD ⊢
  generalize w3.alloc (.cells #[.int .i64 t, .int .i64 b, .int .i64 (T : Int), .slice none 0 0, .slice none 0 0] 30) = w4 at *
  have YB4 := Lib.hid YB
  clear YB b4 XS3 XZ3 B3 hD c0 c1
  obtain ⟨c0, c1⟩ := box2 XS4.out
  go_wp2_with fail
  go_loopw [47] (fun i wr => ∃ (k np cp no co : Nat) (P O : Option Addr), k ≤ m ∧ i = .int .i64 k ∧ Hid (YrB wr D (D + 1) t b T (.slice P np cp) (.slice O no co) ((PWh.paid l b).take k) ((PWh.owed l b).take k)) ∧ Hid (Below D w4 wr)) (fun i _ => m - (intOf i).toNat)
  case atStart => exact ⟨0, 0, 0, 0, 0, none, none, Nat.zero_le _, rfl, YB4, (show Hid _ from Below.refl _ _)⟩
  case round =>
    clear c0 c1 YB4
    obtain ⟨k, np, cp, no, co, P0, O0, hk, rfl, HY, HW⟩ := hrel
    have HWw : Hid (Below w.heap.size w wr) := Lib.hid (B4.out.trans (HW.out.mono (by have := HLw.out; omega)))
    by_cases hlt : k < m
    · obtain ⟨bf, off, rfl, hc⟩ := HF.out.cells hlt
      have hkl : k < l.length := by rw [hl.out]; exact hlt
      obtain ⟨d1, d2, d3⟩ := hc k hkl
      replace d1 := (HWw.out.cell (World.block_lt_of_cell? w _ d1)).trans d1
      replace d2 := (HWw.out.cell (World.block_lt_of_cell? w _ d2)).trans d2
      replace d3 := (HWw.out.cell (World.block_lt_of_cell? w _ d3)).trans d3
      have hok := HRt.out.2.2 k hkl hkl
      have hin := HI.out k hkl
      have HP0 := Lib.hid (PWh.paid_next hkl b)
      have HO0 := Lib.hid (PWh.owed_next hkl b)
      have hlp : ((PWh.paid l b).take k).length = k := by rw [List.length_take, PWh.paid_len]; omega
      have hlo : ((PWh.owed l b).take k).length = k := by rw [List.length_take, PWh.owed_len]; omega
      have HLP := Lib.hid hlp; have HLO := Lib.hid hlo
      obtain ⟨f, hf⟩ : ∃ f, l[k] = f := ⟨_, rfl⟩
      rw [hf] at d1 d2 d3 hok hin HP0 HO0
      obtain ⟨x, y, z⟩ := f
      dsimp only at d1 d2 d3 HP0 HO0
      have HPt : Hid (∀ w', Calls Try.prog 22 #[.agg #[.int .i64 x, .int .i64 y, .int .i64 z], .int .i64 b] w' fun e w'' => e = .returned (.tuple #[.int .i64 (PWh.part b x z : Nat), .int .i64 (PWh.part b y z : Nat), .int .i64 0]) ∧ Below w'.heap.size w' w'') := Lib.hid (fun w' => wparts_any b x y z w' hok.1 hok.2.1 ⟨hok.2.2, hin.2.2.2⟩)
      obtain ⟨P, hP⟩ : ∃ P, PWh.part b x z = P := ⟨_, rfl⟩
      obtain ⟨Q, hQ⟩ : ∃ P, PWh.part b y z = P := ⟨_, rfl⟩
      rw [hP] at HPt HP0; rw [hQ] at HPt HO0
      have i1 : (0 : Int) ≤ (k : Int) := by omega
      have i2 : (k : Int) < (m : Int) := by omega
      clear hf hok hin hP hQ hc hlp hlo
      go_wp2_with fail
      refine (HPt.out _).mono ?_
      rintro _ w5 ⟨rfl, b5⟩
      have b5' : Below wr.heap.size wr w5 := below_step ((Below.refl _ _).alloc (Nat.le_refl _) _) b5
      have HY5 := Lib.hid (HY.out.on b5')
      have HW5 : Hid (Below D w4 w5) := Lib.hid (HW.out.trans (b5'.mono (by have := HY.out.box.1; omega)))
      clear b5 b5' HY HW HWw d1 d2 d3 HPt
      obtain ⟨e0, e1, e2, e3, e4⟩ := box5 HY5.out.box
      obtain ⟨f0, f1, f2, f3, f4⟩ := box5f HY5.out.box
      go_wp2_with (at_builtin; refine append_apart rfl _ _ rfl (D + 1) (.slice P0 np cp) _ ((PWh.paid l b).take k) (P : Int) (by rfl) HY5.out.own (by rfl) (by rw [HLP.out]; omega) HY5.out.le ?_)
      intro p' w6 hown6 hb6 hk6
      obtain ⟨P1, cp1, rfl⟩ := own_shape hown6
      obtain ⟨np1, hnp⟩ : ∃ x, min k (PWh.paid l b).length + 1 = x := ⟨_, rfl⟩
      have hown6' : w6.ownsRow (D + 1) 3 1 (.slice P1 np1 cp1) (((PWh.paid l b).take k).length + 1) (cellsOfInts ((PWh.paid l b).take k ++ [(P : Int)])) := by rw [List.length_take, hnp]; rw [hnp] at hown6; exact hown6
      rw [hnp] at hk6 ⊢
      have hY := HY5.out.push hown6' hb6 hk6
      rw [← HP0.out] at hY
      have HY6 := Lib.hid hY
      have HX6 := Lib.hid (HY5.out.box.keep hb6 HY5.out.lt)
      have HW6 : Hid (Below D w4 (w6.setCell ⟨D, 3, none⟩ (.slice P1 np1 cp1))) := Lib.hid ((HW5.out.trans (hb6.mono (Nat.le_succ D))).setCell (Nat.le_refl D) _)
      clear hown6 hown6' hnp hb6 hk6 hY e0 e1 e2 e3 e4 f0 f1 f2 f3 f4 HP0 HY5 HW5
      obtain ⟨e0, e1, e2, e3, e4⟩ := box5 HX6.out
      obtain ⟨f0, f1, f2, f3, f4⟩ := box5f HX6.out
      go_upto_region 16 with fail
      generalize w6.setCell ⟨D, 3, none⟩ (.slice P1 np1 cp1) = w8 at *
      clear HX6 e0 e1 e2 e3 e4 f0 f1 f2 f3 f4
      obtain ⟨e0, e1, e2, e3, e4⟩ := box5 HY6.out.box
      obtain ⟨f0, f1, f2, f3, f4⟩ := box5f HY6.out.box
      go_wp2_with (at_builtin; refine append_apart rfl _ _ rfl (D + 1) (.slice O0 no co) _ ((PWh.owed l b).take k) (Q : Int) (by rfl) HY6.out.own' (by rfl) (by rw [HLO.out]; omega) HY6.out.le ?_)
      intro o' w7 hown7 hb7 hk7
      obtain ⟨O1, co1, rfl⟩ := own_shape hown7
      obtain ⟨no1, hno⟩ : ∃ x, min k (PWh.owed l b).length + 1 = x := ⟨_, rfl⟩
      have hown7' : w7.ownsRow (D + 1) 3 1 (.slice O1 no1 co1) (((PWh.owed l b).take k).length + 1) (cellsOfInts ((PWh.owed l b).take k ++ [(Q : Int)])) := by rw [List.length_take, hno]; rw [hno] at hown7; exact hown7
      rw [hno] at hk7 ⊢
      have hY := HY6.out.push' hown7' hb7 hk7
      rw [← HO0.out] at hY
      have HY7 := Lib.hid hY
      have HX7 := Lib.hid (HY6.out.box.keep hb7 HY6.out.lt)
      have HW7 : Hid (Below D w4 (w7.setCell ⟨D, 4, none⟩ (.slice O1 no1 co1))) := Lib.hid ((HW6.out.trans (hb7.mono (Nat.le_succ D))).setCell (Nat.le_refl D) _)
      clear hown7 hown7' hno hb7 hk7 hY e0 e1 e2 e3 e4 f0 f1 f2 f3 f4 HO0 HY6 HW6
      obtain ⟨e0, e1, e2, e3, e4⟩ := box5 HX7.out
      obtain ⟨f0, f1, f2, f3, f4⟩ := box5f HX7.out
      go_wp2_with fail
      exact ⟨⟨k + 1, _, _, _, _, _, _, by omega, by congr 1, HY7, HW7⟩, by simp [intOf]; omega⟩
    · obtain rfl : k = m := by omega
      have HTP : Hid ((PWh.paid l b).take k = PWh.paid l b) := Lib.hid (List.take_of_length_le (by rw [PWh.paid_len, hl.out]; omega))
      have HTO : Hid ((PWh.owed l b).take k = PWh.owed l b) := Lib.hid (List.take_of_length_le (by rw [PWh.owed_len, hl.out]; omega))
      rw [HTP.out, HTO.out] at HY
      have HXZ := Lib.hid (XZ4.out.keep HW.out (by omega))
      obtain ⟨f0, f1, f2, f3, f4⟩ := box5f HXZ.out
      obtain ⟨e0, e1, e2, e3, e4⟩ := box5 HXZ.out
      obtain ⟨g0, g1, g2, g3, g4⟩ := box5 HY.out.box
      obtain ⟨wz, hw, rb, ON⟩ := store5 HXZ.out (.int .i64 t) (.int .i64 b) (.int .i64 (T : Int)) (.slice P0 np cp) (.slice O0 no co)
      obtain ⟨k0', k1', k2', k3', k4'⟩ := box5 rb
      have hY := ((((HY.out.far (H := L + 1) (j := 0) (v := .int .i64 t) hLD).far (H := L + 1) (j := 1) (v := .int .i64 b) hLD).far (H := L + 1) (j := 2) (v := .int .i64 (T : Int)) hLD).far (H := L + 1) (j := 3) (v := .slice P0 np cp) hLD).far (H := L + 1) (j := 4) (v := .slice O0 no co) hLD
      rw [hw] at hY
      rw [← hw] at k0' k1' k2' k3' k4'
      have HWz := Lib.hid hw
      have BZ := Lib.hid (ON.below (Nat.le_succ L) (HLw.out ▸ HWw.out))
      have HYz := Lib.hid hY
      clear hw rb ON hY
      go_wp2_with fail
      (try simp only [Exit.inBlock, Exit.then])
      refine bodyPost_ret (by simp [results, Try.results11, go_sem, k0', k1', k2', k3', k4']; try rfl) rfl ?_
      rw [HWz.out]
      have hp6 : (PWh.paid l b).length ≤ 1000 := by rw [PWh.paid_len, hl.out]; omega
      have ho6 : (PWh.owed l b).length ≤ 1000 := by rw [PWh.owed_len, hl.out]; omega
      exact ⟨_, _, rfl, vsl_of_own HYz.out.own (in64_paid HRt.out.2.2 HI.out b) hp6, vsl_of_own HYz.out.own' (in64_owed HRt.out.2.2 HI.out b) ho6, by rw [HLw.out]; exact BZ.out, fresh_own HYz.out.own (by rw [HLw.out]; omega), fresh_own HYz.out.own' (by rw [HLw.out]; omega)⟩
end Go.Proofs.Ytpfpcnfodjmgcaa
