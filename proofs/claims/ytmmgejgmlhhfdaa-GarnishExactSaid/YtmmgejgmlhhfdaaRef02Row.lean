/-
  Two rows of ints beside each other: one is appended to, the other is read.
-/
import Derived.Test.YtmmgejgmlhhfdaaRef02Dbl
import Derived.Test.YtmmgejgmlhhfdaaDivMath
import Derived.Maps.AppendAt
namespace Go.Proofs.Ytmmgejgmlhhfdaa
open Go.RowKit

/-- A slice that holds something does not lie in a row's block. -/
def Apart (A : Option Addr) (ln : Nat) (v : Value) : Prop := 0 < ln → ∀ ad, A = some ad → v.ownBlock ≠ some ad.block
theorem Sl.grown {w w' : World} {A : Option Addr} {n : Nat} {l : List Int} {row : Option Nat} (h : Sl w A n l) (hg : w.grownBy w' row) (hne : 0 < n → ∀ ad, A = some ad → row ≠ some ad.block) : Sl w' A n l := by
  obtain ⟨h1, h2, h3, h4⟩ := h
  refine ⟨h1, h2, h3, ?_⟩
  by_cases h0 : n = 0
  · exact .inl h0
  · rcases h4 with h4 | ⟨b, off, h4, h5⟩
    · exact .inl h4
    · exact .inr ⟨b, off, h4, fun i hi => hg.cell (h5 i hi) (fun e => hne (by omega) _ h4 e.symm)⟩
theorem Num.grown {w w' : World} {A : Option Addr} {n cap z : Nat} {row : Option Nat} (h : Num w A n cap z) (hg : w.grownBy w' row) (hne : 0 < n → ∀ ad, A = some ad → row ≠ some ad.block) : Num w' A n cap z := ⟨h.1, h.2.1, h.2.2.1, h.2.2.2.grown hg hne⟩
theorem Sl.lt {w : World} {A : Option Addr} {n : Nat} {l : List Int} (h : Sl w A n l) (h0 : 0 < n) : ∀ ad, A = some ad → ad.block < w.heap.size := by
  obtain ⟨h1, h2, h3, h4⟩ := h
  rcases h4 with h4 | ⟨b, off, h4, h5⟩
  · omega
  · intro ad e
    rw [h4] at e; cases e
    exact World.block_lt_of_cell? w _ (h5 0 h0)
theorem own_below {w w' : World} {B e size n : Nat} {v : Value} {xs : List Value} (h : w.ownsRow B e size v n xs) (hb : Below w.heap.size w w') : w'.ownsRow B e size v n xs := by
  refine ⟨h.1, ?_⟩
  rcases h.2 with hn | ⟨g, cap, cur, rfl, hg, hgg, rest⟩
  · exact .inl hn
  · exact .inr ⟨g, cap, cur, rfl, hg, by rw [hb.block g (Array.getElem?_eq_some_iff.1 hgg).1]; exact hgg, rest⟩

/-- append_one, that says too where the row lies. -/
theorem append_one_at {w : World} {ops : Array Oper} {rest : List Oper} {o : Oper} {a : Act} {Q : Exit → Act → World → Prop} (hgd : o.guard = none) (s x : Operand)
    (ho : o.op = .call { callee := .builtin .append, args := #[s, x], argTypes := #[24, 24] })
    (base : Nat) (v : Value) (n : Nat) (k : List Int) (d : Int) (hs : a.eval s = v) (hown : w.ownsRow base 3 1 v n (cellsOfInts k))
    (hx : a.eval x = .slice (some ⟨w.heap.size, 0, none⟩) 1 1) (hn : n + 1 ≤ 1000) (hbase : base ≤ w.heap.size)
    (h : ∀ v' w', w'.ownsRow base 3 1 v' (n + 1) (cellsOfInts (k ++ [d])) → (w.alloc (.cells #[.int .i64 d] 3)).grownBy w' v.ownBlock → (v'.ownBlock = v.ownBlock ∨ v'.ownBlock = some (w.heap.size + 1)) → wpList Try.prog ops Q rest (a.put o.dst v') w') :
    wpList Try.prog ops Q (o :: rest) a (w.alloc (.cells #[.int .i64 d] 3)) := by
  obtain ⟨i0, hi, hz0, hz1, hz2⟩ := info_parts infoInt
  refine wpList_append_own_at _ hgd s x 24 ho base 3 i0 (.int .i64 0) 1 8 Try.underlying24 hi hz0 hz1 hz2 rfl (by decide) v n _ hs (hown.alloc _) ⟨w.heap.size, 0, none⟩ 1 1 [.int .i64 d] hx rfl ?_ (fun u hu => ?_) (by unfold maxLen; omega) (by omega) (by simp; omega) (fun v' w' ho' hg _ hat => h v' w' ?_ hg ?_)
  · intro j u hj
    match j, hj with
    | 0, hj => simp at hj; subst hj; simp [Addr.add]
  · simp at hu; subst hu; rfl
  · rw [cellsOfInts_app]; exact ho'
  · simpa using hat

/-- What is known at each digit: what is left, and the digits of the quotient. -/
def DivInv (w5 wr : World) (P C pn k : Nat) (A : Option Addr) (ln lc : Nat) (v : Value) : Prop :=
  Num wr A ln lc (P / 10 ^ k % C) ∧ (∃ D, D.length = pn - k ∧ PDigs.Dig D ∧ PDigs.hval D = ((P / 10 ^ k / C : Nat) : Int) ∧ wr.ownsRow w5.heap.size 3 1 v (pn - k) (cellsOfInts D)) ∧ Apart A ln v ∧ Below w5.heap.size w5 wr
/-- .. and within a digit: q times C has been taken. -/
def DigInv (wr wz : World) (T C q t : Nat) (A : Option Addr) (ln lc : Nat) : Prop :=
  t + q * C = T ∧ Num wz A ln lc t ∧ (∀ ad, A = some ad → wr.heap.size ≤ ad.block) ∧ Below wr.heap.size wr wz

theorem len19 {n : Nat} (h : n ≤ 9223372036854775808) : (PDigs.digs n).length ≤ 19 := PDigs.digs_len_bound (Nat.lt_of_le_of_lt h (by decide))
theorem len38 {x y : Nat} (hx : x ≤ 9223372036854775808) (hy : y ≤ 9223372036854775808) : (PDigs.digs (x * y)).length ≤ 38 := by
  apply PDigs.digs_len_bound
  have h : (10 : Nat) ^ 38 = 10 ^ 19 * 10 ^ 19 := by decide
  rw [h]
  exact Nat.mul_lt_mul'' (Nat.lt_of_le_of_lt hx (by decide)) (Nat.lt_of_le_of_lt hy (by decide))

/-- The world behind the two boxes. -/
def boxed2 (w : World) (sp sc : Bool) (vp vc : Value) : World := (w.alloc (.cells #[.bool sp, vp] 67)).alloc (.cells #[.bool sc, vc] 67)
theorem boxed2_size (w : World) (sp sc : Bool) (vp vc : Value) : (boxed2 w sp sc vp vc).heap.size = w.heap.size + 1 + 1 := by simp [boxed2]
theorem boxed2_below (w : World) (sp sc : Bool) (vp vc : Value) : Below w.heap.size w (boxed2 w sp sc vp vc) := ((Below.refl _ _).alloc (Nat.le_refl _) _).alloc (by simp) _
theorem boxed2_cells (w : World) (sp sc : Bool) (vp vc : Value) :
    (boxed2 w sp sc vp vc).cell? ⟨w.heap.size, 0, none⟩ = some (.bool sp) ∧ (boxed2 w sp sc vp vc).cell? ⟨w.heap.size, 1, none⟩ = some vp ∧
    (boxed2 w sp sc vp vc).cell? ⟨w.heap.size + 1, 0, none⟩ = some (.bool sc) ∧ (boxed2 w sp sc vp vc).cell? ⟨w.heap.size + 1, 1, none⟩ = some vc := by
  unfold boxed2
  refine ⟨?_, ?_, ?_, ?_⟩ <;> go_simp
theorem divInv_start (w5 : World) (P C pn : Nat) (h : (PDigs.digs P).length = pn) : DivInv w5 w5 P C pn pn none 0 0 (.slice none 0 0) := by
  have h0 : P / 10 ^ pn = 0 := by rw [← h]; exact PDigs.top_zero P
  refine ⟨⟨fun _ => rfl, Nat.le_refl _, by omega, ?_⟩, ⟨[], by simp, (fun d hd => by cases hd), ?_, ?_⟩, (fun _ ad e => by cases e), Below.refl _ _⟩
  · rw [h0, Nat.zero_mod, PDigs.digs_zero]
    exact ⟨rfl, fun i hi => by omega, by omega, .inl rfl⟩
  · rw [h0, Nat.zero_div]; rfl
  · rw [Nat.sub_self]; exact World.ownsRow_nil _ _ _ _
/-- The digit taken, the invariant of the next place. -/
theorem divInv_next {w5 wr wz wn : World} {P C pn m q t d : Nat} {A : Option Addr} {ln lc : Nat} {v v' : Value} {D : List Int} (hC : 0 < C) (hm : m + 1 ≤ pn)
    (hd : P / 10 ^ m % 10 = d) (hi : DigInv wr wz (10 * (P / 10 ^ (m + 1) % C) + d) C q t A ln lc) (ht : t < C)
    (hDl : D.length = pn - (m + 1)) (hDd : PDigs.Dig D) (hDv : PDigs.hval D = ((P / 10 ^ (m + 1) / C : Nat) : Int)) (hbl : Below w5.heap.size w5 wr)
    (hvlt : ∀ k, v.ownBlock = some k → w5.heap.size ≤ k ∧ k < wr.heap.size)
    (ho : wn.ownsRow w5.heap.size 3 1 v' (pn - (m + 1) + 1) (cellsOfInts (D ++ [(q : Int)]))) (hg : (wz.alloc (.cells #[.int .i64 q] 3)).grownBy wn v.ownBlock)
    (hat : v'.ownBlock = v.ownBlock ∨ v'.ownBlock = some (wz.heap.size + 1)) : DivInv w5 wn P C pn m A ln lc v' := by
  obtain ⟨h1, h2, h3, h4⟩ := hi
  have hnd := PDigs.next_digit P m
  rw [hd] at hnd
  have hst := PDigs.div_step (P / 10 ^ (m + 1)) C d hC
  rw [← hnd] at hst
  have hd9 : d ≤ 9 := by omega
  have hq9 := PDigs.div_digit (P / 10 ^ (m + 1)) C d hC hd9
  rw [← h1] at hst hq9
  have e1 : (t + q * C) / C = q := by rw [Nat.add_mul_div_right _ _ hC, Nat.div_eq_of_lt ht]; omega
  have e2 : (t + q * C) % C = t := by rw [Nat.add_mul_mod_self_right, Nat.mod_eq_of_lt ht]
  rw [e1, e2] at hst
  rw [e1] at hq9
  have hsl := h2.sl
  have hw : w5.heap.size ≤ wr.heap.size := hbl.size
  have hwz : wr.heap.size ≤ wz.heap.size := h4.size
  have hneq : ∀ ad, A = some ad → v.ownBlock ≠ some ad.block := fun ad e he => by
    have a1 := h3 ad e
    have a2 := hvlt _ he
    omega
  refine ⟨?_, ⟨D ++ [(q : Int)], by simp; omega, ?_, ?_, ?_⟩, ?_, ?_⟩
  · rw [hst.2]
    exact (h2.on ((Below.refl _ _).alloc (Nat.le_refl _) _)).grown hg (fun _ => hneq)
  · intro x hx
    rcases List.mem_append.1 hx with hx | hx
    · exact hDd x hx
    · simp at hx; subst hx; omega
  · rw [PDigs.hval_snoc, hDv, hst.1]; push_cast; rfl
  · rw [show pn - m = pn - (m + 1) + 1 by omega]; exact ho
  · intro h0 ad e he
    rcases hat with hat | hat
    · exact hneq ad e (hat ▸ he)
    · have b1 := hsl.lt h0 ad e
      rw [hat] at he
      injection he with he
      omega
  · exact ((hbl.trans (h4.mono hw)).alloc (by omega) _).grown hg (by simp; omega) (fun k hk => (hvlt k hk).1)
theorem val_next (d r : Nat) : (PDigs.val ((d : Int) :: PDigs.digs r)).toNat = 10 * r + d := by
  show ((d : Int) + 10 * PDigs.val (PDigs.digs r)).toNat = _
  rw [PDigs.val_digs]; omega
theorem dig_next {d r : Nat} (hd : d ≤ 9) : PDigs.Dig ((d : Int) :: PDigs.digs r) := by
  intro x hx
  rcases List.mem_cons.1 hx with hx | hx
  · subst hx; omega
  · exact PDigs.digs_dig r x hx
/-- What is taken in a digit is small. -/
theorem digInv_small {wr wz : World} {V C d q t : Nat} {A : Option Addr} {ln lc : Nat} (hC : 0 < C) (hC' : C ≤ 9223372036854775808) (hd : d ≤ 9) (h : DigInv wr wz (10 * (V % C) + d) C q t A ln lc) : q ≤ 9 ∧ ln ≤ 20 := by
  have h1 := h.1
  have hm : V % C < C := Nat.mod_lt _ hC
  have hq9 := PDigs.div_digit V C d hC hd
  constructor
  · have : q ≤ (10 * (V % C) + d) / C := (Nat.le_div_iff_mul_le hC).2 (by omega)
    omega
  · have ht : t < 10 ^ 20 := Nat.lt_of_lt_of_le (show t < 10 * 9223372036854775808 + 10 by omega) (by decide)
    have := PDigs.digs_len_bound ht
    rw [h.2.1.len] at this
    exact this
theorem digInv_start {wr w7 : World} {V C d : Nat} {A : Option Addr} {n cap : Nat} (h : Num w7 A n cap (10 * (V % C) + d)) (hf : ∀ ad, A = some ad → wr.heap.size ≤ ad.block) (hb : Below wr.heap.size wr w7) : DigInv wr w7 (10 * (V % C) + d) C 0 (10 * (V % C) + d) A n cap := ⟨by omega, h, hf, hb⟩
/-- The last digit tells whether the number is odd. -/
theorem odd_last {D : List Int} {Q n : Nat} {e : Int} (hn : D.length = n) (h0 : 0 < n) (hv : PDigs.hval D = (Q : Int)) (he : D.getD (n - 1) 0 = e) : decide (e % 2 = 1) = decide (Q % 2 = 1) := by
  have := PDigs.hval_last D (fun e => by subst e; simp at hn; omega)
  rw [hn, he, hv] at this
  simp; omega
theorem odd_none {D : List Int} {Q : Nat} (hn : D.length = 0) (hv : PDigs.hval D = (Q : Int)) : Q = 0 := by
  obtain rfl : D = [] := List.eq_nil_of_length_eq_zero hn
  have : (0 : Int) = Q := hv
  omega
theorem below_undrew {w w' : World} (h : Below w.drew.heap.size w.drew w') : Below w.heap.size w w' := (Below.refl w.heap.size w).drew.trans h
/-- Is it rounded up: case by case. -/
theorem up0 (Q R C : Nat) : PDigs.upB 0 Q R C = false := by simp [PDigs.upB]
theorem up1 (Q R C : Nat) {ln : Nat} (h : 0 < R ↔ 0 < ln) (hl : 0 < ln) : PDigs.upB 1 Q R C = true := by simp [PDigs.upB, h, hl]
theorem up1' (Q R C : Nat) {ln : Nat} (h : 0 < R ↔ 0 < ln) (hl : ¬ 0 < ln) : PDigs.upB 1 Q R C = false := by simp [PDigs.upB, h, hl]
theorem up_lt (Q : Nat) {mode R C : Nat} (hm : mode ≠ 1) (h : R * 2 < C) : PDigs.upB mode Q R C = false := by simp [PDigs.upB, hm]; omega
theorem up_gt (Q : Nat) {mode R C : Nat} (hm : 1 < mode) (h : C < R * 2) : PDigs.upB mode Q R C = true := by simp [PDigs.upB, h, hm]
theorem up2 (Q : Nat) {R C : Nat} (h : R * 2 = C) : PDigs.upB 2 Q R C = true := by simp [PDigs.upB, h]
theorem up3 (Q : Nat) {R C : Nat} (h : R * 2 = C) : PDigs.upB 3 Q R C = decide (Q % 2 = 1) := by simp [PDigs.upB, h]
/-- A digit more. -/
theorem hval_more {D : List Int} {j : Nat} {n x : Int} (hj : j < D.length) (hx : D.getD j 0 = x) (hn : PDigs.hval (D.take j) = n) : PDigs.hval (D.take (j + 1)) = 10 * n + x := by
  rw [PDigs.hval_take_succ D j hj, hn, hx]
theorem hval_over {D : List Int} {j Q : Nat} {n : Int} (hd : PDigs.Dig D) (hv : PDigs.hval D = (Q : Int)) (hn : PDigs.hval (D.take j) = n) : n ≤ Q := by
  rw [← hn, ← hv]; exact PDigs.hval_take_le hd j
theorem hval_whole {D : List Int} {j Q : Nat} {n : Int} (hl : D.length = j) (hv : PDigs.hval D = (Q : Int)) (hn : PDigs.hval (D.take j) = n) : n = Q := by
  rw [← hn, ← hv, List.take_of_length_le (by omega)]
theorem hval_low {D : List Int} {j : Nat} {n : Int} (hd : PDigs.Dig D) (hn : PDigs.hval (D.take j) = n) : 0 ≤ n := by
  rw [← hn]; exact PDigs.hval_nonneg (fun d h => hd d (List.mem_of_mem_take h))
/-- What MulDiv answers: the number, if it is an int. -/
def divAns (sg : Bool) (r : Nat) : Value := if 9223372036854775807 < r then .tuple #[.int .i64 0, .bool false] else .tuple #[.int .i64 (if sg = true then -(r : Int) else r), .bool true]
theorem divAns_no {sg : Bool} {r : Nat} (h : 9223372036854775807 < r) : divAns sg r = .tuple #[.int .i64 0, .bool false] := by unfold divAns; rw [if_pos h]
theorem divAns_yes {sg : Bool} {r : Nat} {n : Int} (h : ¬ 9223372036854775807 < r) (hn : (if sg = true then -(r : Int) else r) = n) : divAns sg r = .tuple #[.int .i64 n, .bool true] := by unfold divAns; rw [if_neg h, hn]
theorem digInv_on {wr wz wn : World} {T C q t : Nat} {A : Option Addr} {ln lc : Nat} (h : DigInv wr wz T C q t A ln lc) (hb : Below wz.heap.size wz wn) : DigInv wr wn T C q t A ln lc := ⟨h.1, h.2.1.on hb, h.2.2.1, below_step h.2.2.2 hb⟩
theorem digInv_down {wr wz : World} {T C q t : Nat} {A : Option Addr} {ln lc : Nat} (h : DigInv wr wz T C q t A ln lc) (hC : 0 < C) (hct : C ≤ t) : q < T := by
  have h1 := h.1
  have : q * 1 ≤ q * C := Nat.mul_le_mul_left q hC
  omega
theorem cmp_ge {x y : Nat} (h : y ≤ x) : 0 ≤ PDigs.cmp x y := by
  by_cases e : x = y
  · rw [PDigs.cmp_eq e]; decide
  · rw [PDigs.cmp_gt (by omega)]; decide
theorem digInv_next {wr wz wn w8 : World} {T C q t : Nat} {A A' : Option Addr} {ln lc n' c' : Nat} (hi : DigInv wr wz T C q t A ln lc) (hct : C ≤ t) (hb : Below wz.heap.size wz w8) (hn : Num wn A' n' c' (t - C)) (hf : ∀ ad, A' = some ad → w8.heap.size ≤ ad.block) (hb' : Below w8.heap.size w8 wn) : DigInv wr wn T C (q + 1) (t - C) A' n' c' := by
  obtain ⟨h1, h2, h3, h4⟩ := hi
  refine ⟨?_, hn, fun ad e => ?_, below_step (below_step h4 hb) hb'⟩
  · rw [Nat.add_mul]; omega
  · have := hf ad e; have := hb.size; have := h4.size; omega
end Go.Proofs.Ytmmgejgmlhhfdaa
