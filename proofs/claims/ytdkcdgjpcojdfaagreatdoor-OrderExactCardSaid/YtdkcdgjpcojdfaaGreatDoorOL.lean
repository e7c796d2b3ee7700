/-
  What the landed order answers: the least rule that is free, by bits.
  math/bits.TrailingZeros64, laid at this translation; bits of a number and of what is not in it.
  What the landed order answers: an order of rules that hang on these, by bits; or the least place that is not in it.
-/
import Derived.Test.YtdkcdgjpcojdfaaGreatDoorRB
import Derived.Laws.BitsAllLaws
import Derived.Laws.Bits64b
import Derived.Test.YtdkcdgjpcojdfaaGreatDoorMT
import Derived.Shelf.Spec.TrailingZeros
import Derived.Lib.TrailingZeros

set_option linter.unusedVariables false
namespace Go.Proofs.YtdkcdgjpcojdfaaGreatDoor
open Go.RowKit

def u64R : Rec Nat := ⟨fun z => [.int .u64 (z : Nat)], 1, by decide, fun _ => rfl, fun x u hu => by simp at hu; subst hu; rfl⟩
theorem u64_at {w : World} {A : Option Addr} {n : Nat} {L : List Nat} (h : SlX u64R w A n L) {q : Nat} (hq : q < n) : ∃ b o x, A = some ⟨b, o, none⟩ ∧ L[q]? = some x ∧ w.cell? ⟨b, o + q, none⟩ = some (.int .u64 (x : Nat)) := by
  obtain ⟨b, o, rfl, hc⟩ := h.at hq
  have hl : q < L.length := by rw [h.1]; exact hq
  have := hc q hl 0 _ rfl
  have hk : u64R.k = 1 := rfl
  rw [hk, Nat.mul_one, Nat.add_zero] at this
  exact ⟨b, o, L[q], rfl, List.getElem?_eq_getElem hl, this⟩
def freeB (V : List Nat) (B i : Nat) : Bool := (B / 2 ^ i % 2 == 0) && (V.getD i 0 &&& (18446744073709551615 - B) == 0)
theorem bit_and {B i : Nat} (hB : B < 1152921504606846976) : bits .and .u64 ((B : Int) / 2 ^ i) 1 = ((B / 2 ^ i % 2 : Nat) : Int) := by
  have e : ((B : Int) / 2 ^ i) = ((B / 2 ^ i : Nat) : Int) := by rw [Int.natCast_ediv, Int.natCast_pow]; rfl
  have hle : B / 2 ^ i ≤ B := Nat.div_le_self _ _
  rw [e, show (1 : Int) = ((1 : Nat) : Int) from rfl, u64_and_nat _ _ (by omega) (by decide), nat_mask1]
theorem bit_not {v B : Nat} (hv : v < 1152921504606846976) (hB : B < 1152921504606846976) : bits .andNot .u64 (v : Int) (B : Int) = ((v &&& (18446744073709551615 - B) : Nat) : Int) := u64_andNot_nat _ _ (by omega) (by omega)
theorem bit_cases {V : List Nat} {v B i : Nat} (hB : B < 1152921504606846976) (hv : v < 1152921504606846976) (hi : V[i]? = some v) :
    (freeB V B i = true ∧ bits .and .u64 ((B : Int) / 2 ^ i) 1 = 0 ∧ (bits .andNot .u64 (v : Int) (B : Int) == 0) = true) ∨
    (freeB V B i = false ∧ bits .and .u64 ((B : Int) / 2 ^ i) 1 = 0 ∧ (bits .andNot .u64 (v : Int) (B : Int) == 0) = false) ∨
    (freeB V B i = false ∧ ¬ bits .and .u64 ((B : Int) / 2 ^ i) 1 = 0) := by
  have hd : V.getD i 0 = v := by rw [List.getD, hi]; rfl
  unfold freeB
  rw [hd, bit_and hB, bit_not hv hB]
  obtain ⟨x, hx⟩ : ∃ x, B / 2 ^ i % 2 = x := ⟨_, rfl⟩
  obtain ⟨y, hy⟩ : ∃ y, v &&& (18446744073709551615 - B) = y := ⟨_, rfl⟩
  rw [hx, hy]
  clear hx hy hB hv
  by_cases h1 : x = 0
  · subst h1
    by_cases h2 : y = 0
    · subst h2; exact .inl ⟨rfl, rfl, rfl⟩
    · refine .inr (.inl ⟨?_, rfl, ?_⟩)
      · rw [beq_eq_false_iff_ne.2 h2]; rfl
      · rw [beq_eq_false_iff_ne]; omega
  · refine .inr (.inr ⟨?_, by omega⟩)
    rw [beq_eq_false_iff_ne.2 h1]; rfl
set_option maxHeartbeats 3200000 in
set_option maxRecDepth 100000 in
theorem kleast_any {w : World} {A : Option Addr} {n c B : Nat} {V : List Nat} (hV : SlX u64R w A n V) (hn : n ≤ 60) (hB : B < 1152921504606846976) (hVb : ∀ v ∈ V, v < 1152921504606846976) :
    Calls Tryz.prog 60 #[.slice A n c, .int .u64 (B : Nat)] w fun e w' => e = .returned (.int .i64 (plO (POrd.least n (freeB V B)))) ∧ w = w' := by
  obtain ⟨z, hz⟩ : ∃ z, plO (POrd.least n (freeB V B)) = z := ⟨_, rfl⟩
  rw [hz]
  have HV := Lib.hid hV; have HZ := Lib.hid hz; have HVB := Lib.hid hVb
  clear hV hz hVb
  go_enter Tryz.func60, Tryz.ntmps60
  go_wp2_with fail
  go_loop [9] (fun x => ∃ i : Nat, x = .int .i64 i ∧ i ≤ n ∧ Hid (∀ j, j < i → freeB V B j = false)) (fun x => n - (intOf x).toNat)
  case atStart => exact ⟨0, rfl, Nat.zero_le _, (show Hid _ from fun j h => absurd h (Nat.not_lt_zero _))⟩
  case round =>
    obtain ⟨i, rfl, hi, I1⟩ := hrel
    by_cases hin : i < n
    · have gi : (i : Int) < (n : Int) := by omega
      have gi6 : i < 64 := by omega
      obtain ⟨b, o, v, rfl, hv, cv⟩ := u64_at HV.out hin
      have hsv := World.block_lt_of_cell? w _ cv
      have hvb : v < 1152921504606846976 := HVB.out v (List.mem_of_getElem? hv)
      have hcs := bit_cases hB hvb hv
      clear hv hvb hsv
      have hsv := World.block_lt_of_cell? w _ cv
      rcases hcs with ⟨hf, p1, p2⟩ | ⟨hf, p1, p2⟩ | ⟨hf, p1⟩
      · have HR : Hid (((i : Nat) : Int) = z) := Lib.hid (by rw [← HZ.out, POrd.least_some hin hf I1.out]; rfl)
        clear hf I1
        go_wp2_with fail
        go_ret
        exact ⟨by rw [← HR.out]; rfl, rfl⟩
      · have NX : Hid (∀ j, j < i + 1 → freeB V B j = false) := Lib.hid (fun j h => by
          by_cases e : j = i
          · subst e; exact hf
          · exact I1.out j (by omega))
        clear hf I1
        go_wp2_with fail
        exact ⟨⟨i + 1, rfl, by omega, NX⟩, by simp [intOf]; omega⟩
      · have NX : Hid (∀ j, j < i + 1 → freeB V B j = false) := Lib.hid (fun j h => by
          by_cases e : j = i
          · subst e; exact hf
          · exact I1.out j (by omega))
        clear hf I1
        go_wp2_with fail
        exact ⟨⟨i + 1, rfl, by omega, NX⟩, by simp [intOf]; omega⟩
    · obtain rfl : i = n := by omega
      have HR : Hid ((-1 : Int) = z) := Lib.hid (by rw [← HZ.out, POrd.least_none I1.out]; rfl)
      have gi : ¬ (i : Int) < (i : Int) := by omega
      clear I1 hin
      go_wp2_with fail
      go_ret
      exact ⟨by rw [← HR.out]; rfl, rfl⟩
end Go.Proofs.YtdkcdgjpcojdfaaGreatDoor

set_option linter.unusedVariables false
namespace Go.Proofs.YtdkcdgjpcojdfaaGreatDoor
open Go.RowKit Go.Shelf

def Tab64 (w : World) : Prop := Lib.TabIs Tryz.prog w "math/bits.deBruijn64tab" .u8 (Lib.deBruijn64tab.map fun n => ((n : Nat) : Int))
theorem Tab64.on {w w' : World} (h : Tab64 w) (hb : Below w.heap.size w w') : Tab64 w' := (Lib.tabBelow_of_tabIs h).on hb |>.here
def tzRen : Go.Shelf.Ren := ⟨fun | 29 => 61 | n => n, fun | 0 => 0 | 3 => 3 | 4 => 4 | 5 => 5 | 22 => 122 | 25 => 158 | 54 => 157 | n => n, fun | 1 => 0 | n => n⟩
theorem tzLays : Lays7.n29 Tryz.prog tzRen := {
  mixed := by kernel_rfl
  f29 := Tryz.func61.trans (congrArg some (by kernel_rfl))
  t0 := Tryz.underlying0
  a0 := Tryz.isAgg0
  z0 := Tryz.sizeOf0
  v0 := Tryz.zeroValue0
  i0 := by kernel_rfl
  t3 := Tryz.underlying3
  a3 := Tryz.isAgg3
  z3 := Tryz.sizeOf3
  v3 := Tryz.zeroValue3
  i3 := by kernel_rfl
  t4 := Tryz.underlying4
  a4 := Tryz.isAgg4
  z4 := Tryz.sizeOf4
  v4 := Tryz.zeroValue4
  i4 := by kernel_rfl
  t5 := Tryz.underlying5
  a5 := Tryz.isAgg5
  z5 := Tryz.sizeOf5
  v5 := Tryz.zeroValue5
  i5 := by kernel_rfl
  t22 := Tryz.underlying122
  a22 := Tryz.isAgg122
  z22 := Tryz.sizeOf122
  v22 := Tryz.zeroValue122
  i22 := by kernel_rfl
  t25 := Tryz.underlying158
  a25 := Tryz.isAgg158
  z25 := Tryz.sizeOf158
  v25 := Tryz.zeroValue158
  i25 := by kernel_rfl
  t54 := Tryz.underlying157
  a54 := Tryz.isAgg157
  z54 := Tryz.sizeOf157
  g1 := by kernel_rfl }
theorem gTab64 : Tryz.prog.globalNamed "math/bits.deBruijn64tab" = some 0 := by kernel_rfl
theorem ktz_any (x : Nat) (hx : x < 18446744073709551616) (w : World) (ht : Tab64 w) : Calls Tryz.prog 61 #[.int .u64 x] w fun e w' => e = .returned (.int .i64 (Lib.ctz 64 x)) ∧ w' = w :=
  Any7.bits_TrailingZeros64 tzLays x hx w (fun _ j hj => by
    have := Lib.TabIs.cell ht gTab64 j (by rw [List.length_map]; exact hj)
    rw [List.getD, List.getElem?_map] at this
    rw [List.getD]
    cases h : Lib.deBruijn64tab[j]? with
    | none => rw [h] at this; exact this
    | some y => rw [h] at this; exact this)
end Go.Proofs.YtdkcdgjpcojdfaaGreatDoor
namespace POrd
theorem ctz_least {B f : Nat} (hB : B < 18446744073709551615) (hf : f < 64) (h0 : B.testBit f = false) (h1 : ∀ j, j < f → B.testBit j = true) : Go.Lib.ctz 64 (18446744073709551615 - B) = f := by
  have hx : ∀ i, (18446744073709551615 - B).testBit i = (decide (i < 64) && !B.testBit i) := fun i => by
    have := Nat.testBit_two_pow_sub_succ (x := B) (n := 64) (by omega) i
    rw [show 2 ^ 64 - (B + 1) = 18446744073709551615 - B by omega] at this
    exact this
  have hpos : 0 < 18446744073709551615 - B := by omega
  obtain ⟨m, hm, hc⟩ := Go.Lib.ctzFrom_spec 64 (18446744073709551615 - B) hpos (by omega)
  unfold Go.Lib.ctz
  rw [if_neg (by omega)]
  obtain ⟨c, hcc⟩ : ∃ c, Go.Lib.ctzFrom 64 (18446744073709551615 - B) = c := ⟨_, rfl⟩
  rw [hcc] at hm hc ⊢
  have hb : ∀ i, (18446744073709551615 - B).testBit i = (decide (c ≤ i) && (2 * m + 1).testBit (i - c)) := fun i => by
    rw [hm, Nat.testBit_two_pow_mul]
  apply Classical.byContradiction
  intro hne
  by_cases hlt : c < f
  · have e1 := hb c
    rw [hx c, h1 c hlt] at e1
    simp at e1
  · have e1 := hb f
    rw [hx f, h0, decide_eq_false (by omega : ¬ c ≤ f), decide_eq_true hf] at e1
    simp at e1
end POrd

set_option linter.unusedVariables false
namespace POrd
structure Bset (B : Nat) (l : List Nat) : Prop where
  bit : ∀ k, B.testBit k = l.contains k
  lt : B < 1152921504606846976
theorem bset_nil : Bset 0 [] := ⟨fun k => by simp, by decide⟩
theorem bset_snoc {B i : Nat} {l : List Nat} (h : Bset B l) (hi : i < 60) : Bset (B ||| 2 ^ i) (l ++ [i]) := by
  refine ⟨fun k => ?_, ?_⟩
  · rw [Nat.testBit_or, h.bit, Nat.testBit_two_pow, List.contains_eq_mem, List.contains_eq_mem]
    by_cases e : i = k
    · subst e; simp
    · have e2 : k ≠ i := fun c => e c.symm
      simp [e, e2]
  · have h2 : 2 ^ i < 2 ^ 60 := Nat.pow_lt_pow_right (by omega) hi
    have := Nat.or_lt_two_pow (n := 60) (x := B) (y := 2 ^ i) (by have := h.lt; omega) h2
    omega
structure Vset (V : List Nat) (n : Nat) (H : Nat → Nat → Bool) : Prop where
  len : V.length = n
  bit : ∀ i, i < n → ∀ k, (V.getD i 0).testBit k = (decide (k < n) && H i k)
  lt : ∀ v ∈ V, v < 1152921504606846976
theorem least_congr {n : Nat} {P R : Nat → Bool} (h : ∀ i, i < n → P i = R i) : least n P = least n R := by
  cases hr : least n R with
  | none => exact least_none (fun j hj => by rw [h j hj]; exact least_no hr j hj)
  | some i =>
    obtain ⟨h1, h2, h3⟩ := least_is hr
    exact least_some h1 (by rw [h i h1]; exact h2) (fun j hj => by rw [h j (by omega)]; exact h3 j hj)
end POrd
namespace Go.Proofs.YtdkcdgjpcojdfaaGreatDoor
open Go.RowKit
open POrd (Bset Vset bset_nil bset_snoc)

theorem freeB_is {V : List Nat} {n B : Nat} {H : Nat → Nat → Bool} {l : List Nat} (hV : Vset V n H) (hB : Bset B l) {i : Nat} (hi : i < n) : freeB V B i = POrd.free n H l i := by
  have e1 : (B / 2 ^ i % 2 == 0) = !l.contains i := by
    rw [← hB.bit i, Nat.testBit_eq_decide_div_mod_eq]
    have : B / 2 ^ i % 2 < 2 := Nat.mod_lt _ (by decide)
    by_cases h : B / 2 ^ i % 2 = 0
    · rw [h]; rfl
    · rw [show B / 2 ^ i % 2 = 1 by omega]; rfl
  have hx : ∀ k, (18446744073709551615 - B).testBit k = (decide (k < 64) && !B.testBit k) := fun k => by
    have := Nat.testBit_two_pow_sub_succ (x := B) (n := 64) (by have := hB.lt; omega) k
    rw [show 2 ^ 64 - (B + 1) = 18446744073709551615 - B by omega] at this
    exact this
  have hlt : V.getD i 0 < 2 ^ 60 := by
    have hil : i < V.length := by rw [hV.len]; exact hi
    rw [List.getD, List.getElem?_eq_getElem hil]
    exact hV.lt _ (List.getElem_mem hil)
  have e2 : (V.getD i 0 &&& (18446744073709551615 - B) == 0) = (List.range n).all (fun k => !H i k || l.contains k) := by
    rw [Bool.eq_iff_iff, beq_iff_eq, List.all_eq_true]
    constructor
    · intro h k hk
      have hk : k < n := List.mem_range.1 hk
      by_cases hh : H i k = true
      · have h2 := congrArg (fun x => x.testBit k) h
        simp only [Nat.testBit_and, Nat.zero_testBit] at h2
        rw [hV.bit i hi k, hx k, hh, decide_eq_true hk] at h2
        by_cases hk6 : k < 64
        · rw [decide_eq_true hk6, hB.bit k] at h2
          simp at h2
          simp [h2]
        · have h3 := hV.bit i hi k
          rw [hh, decide_eq_true hk, Nat.testBit_lt_two_pow (Nat.lt_of_lt_of_le hlt (Nat.pow_le_pow_right (by decide) (by omega)))] at h3
          cases h3
      · simp [hh]
    · intro h
      apply Nat.eq_of_testBit_eq
      intro k
      rw [Nat.testBit_and, Nat.zero_testBit, hV.bit i hi k, hx k, hB.bit k]
      by_cases hk : k < n
      · have := h k (List.mem_range.2 hk)
        cases hh : H i k <;> simp_all
      · simp [hk]
  unfold freeB POrd.free
  rw [e1, e2]
theorem bset_first {B n : Nat} {l : List Nat} (hB : Bset B l) (h : POrd.Good0 n l) (hl : l.length < n) (hn : n ≤ 60) : Lib.ctz 64 (18446744073709551615 - B) = POrd.first n l := by
  obtain ⟨h1, h2, h3⟩ := POrd.first_is h hl
  exact POrd.ctz_least (by have := hB.lt; omega) (by omega) (by rw [hB.bit]; simpa using h2) (fun j hj => by rw [hB.bit]; simpa using h3 j hj)
theorem bit_or {B i : Nat} (hB : B < 1152921504606846976) (hi : i < 60) : bits .or .u64 (B : Int) ((2 ^ i : Nat) : Int) = ((B ||| 2 ^ i : Nat) : Int) := by
  have h2 : 2 ^ i < 2 ^ 60 := Nat.pow_lt_pow_right (by omega) hi
  exact u64_or_nat _ _ (by omega) (by omega)
theorem bit_or2 {B i : Nat} (hB : B < 1152921504606846976) (hi : i < 60) : bits .or .u64 (B : Int) (IntKind.u64.wrap (2 ^ i)) = ((B ||| 2 ^ i : Nat) : Int) := by
  have h2 : 2 ^ i < 2 ^ 60 := Nat.pow_lt_pow_right (by omega) hi
  have e : (2 : Int) ^ i = ((2 ^ i : Nat) : Int) := by rw [Int.natCast_pow]; rfl
  have hw : IntKind.u64.wrap ((2 : Int) ^ i) = ((2 ^ i : Nat) : Int) := by
    rw [IntKind.wrap_u64, e]
    generalize (2 ^ i : Nat) = x at h2 ⊢
    have h3 : (2 ^ 60 : Nat) = 1152921504606846976 := by decide
    omega
  rw [hw]
  exact bit_or hB hi
theorem bit_xor {B : Nat} (hB : B < 1152921504606846976) : bits .xor .u64 IntKind.u64.max (B : Int) = ((18446744073709551615 - B : Nat) : Int) := by
  have h := u64_xor_nat 18446744073709551615 B (by decide) (by omega)
  have e : (18446744073709551615 ^^^ B) = 18446744073709551615 - B := by
    apply Nat.eq_of_testBit_eq
    intro k
    have h1 := Nat.testBit_two_pow_sub_succ (x := B) (n := 64) (by omega) k
    rw [show 2 ^ 64 - (B + 1) = 18446744073709551615 - B by omega] at h1
    have h2 := Nat.testBit_two_pow_sub_one 64 k
    rw [show 2 ^ 64 - 1 = 18446744073709551615 by decide] at h2
    rw [Nat.testBit_xor, h1, h2]
    by_cases hk : k < 64
    · rw [decide_eq_true hk]; simp
    · rw [decide_eq_false hk, Nat.testBit_lt_two_pow (Nat.lt_of_lt_of_le (show B < 2 ^ 64 by omega) (Nat.pow_le_pow_right (by decide) (by omega)))]; rfl
  rw [e] at h
  exact h
set_option maxHeartbeats 6400000 in
set_option maxRecDepth 100000 in
theorem kinOrd_any {w : World} {A : Option Addr} {n c : Nat} {V : List Nat} {H : Nat → Nat → Bool} (hA : SlX u64R w A n V) (hV : Vset V n H) (hn : n ≤ 60) (ht : Tab64 w) :
    Calls Tryz.prog 32 #[.slice A n c] w (OrdAns (POrd.sortR (POrd.sort n H)) w) := by
  obtain ⟨S, hS⟩ : ∃ S, POrd.sort n H = S := ⟨_, rfl⟩
  rw [hS]
  obtain ⟨Q, hQ⟩ : ∃ Q, OrdAns (POrd.sortR S) w = Q := ⟨_, rfl⟩
  rw [hQ]
  have FIN1 : Hid (∀ (l : List Nat) (X : Option Addr) (cx : Nat) (w' : World), S = (some l, 0) → SlX intR w' X l.length (plI l) → ((X = none → cx = 0) ∧ l.length ≤ cx) → Below w.heap.size w w' → Q (.returned (.tuple #[.slice X l.length cx, .int .i64 0, .int .i64 0])) w') := Lib.hid (fun l X cx w' hs hl hx a => by
    rw [← hQ, hs]
    exact ⟨X, cx, rfl, hl, hx, a⟩)
  have FIN2 : Hid (∀ (i : Nat) (w' : World), S = (none, i) → Below w.heap.size w w' → Q (.returned (.tuple #[.slice none 0 0, .int .i64 (i : Nat), .int .i64 8])) w') := Lib.hid (fun i w' hs a => by
    rw [← hQ, hs]
    exact ⟨none, 0, rfl, slr_nil _ _ _, ⟨fun _ => rfl, Nat.le_refl _⟩, a⟩)
  have HS : Hid (POrd.sortF n H n [] = S) := Lib.hid hS
  have HA := Lib.hid hA; have HV := Lib.hid hV; have HT := Lib.hid ht
  clear hQ hS hA hV ht
  go_enter Tryz.func32, Tryz.ntmps32
  go_wp2_with fail
  go_loopw [5, 6] (fun v b wx => ∃ (l : List Nat) (B : Nat), lenOf v = l.length ∧ b = .int .u64 (B : Nat) ∧ Hid (Bset B l) ∧ Hid (POrd.Good0 n l) ∧ Hid (wx.ownsRow w.heap.size 3 intR.k v l.length (intR.cells (plI l))) ∧ Hid (POrd.sortF n H (n - l.length) l = S) ∧ Hid (Below w.heap.size w wx)) (fun v _ _ => n - lenOf v)
  case atStart => exact ⟨[], 0, rfl, rfl, Lib.hid bset_nil, Lib.hid ⟨List.nodup_nil, fun i h => by cases h⟩, Lib.hid (World.ownsRow_nil _ _ _ _), HS, Lib.hid (Below.refl _ _)⟩
  case round =>
    obtain ⟨l, B, hlv, rfl, I0, I1, I2, I3, I4⟩ := hrel
    obtain ⟨LA, lc, rfl, hL0, hlc, sl⟩ := slr_of_own I2.out (plI_len l)
    have HL0 := Lib.hid (And.intro hL0 hlc)
    have HSL := Lib.hid sl
    obtain ⟨ln, hln⟩ : ∃ ln, l.length = ln := ⟨_, rfl⟩
    rw [hln] at HSL I2
    simp only [hln]
    have hlr : ln ≤ n := by rw [← hln]; exact POrd.good0_len I1.out
    have HLN := Lib.hid hln
    clear hL0 hlc sl hlv hln
    by_cases hlt : ln < n
    · have gl : (ln : Int) < (n : Int) := by omega
      have hBl := I0.out.lt
      have cl := kleast_any (c := c) (HA.out.on I4.out) hn hBl HV.out.lt
      have hnx : POrd.least n (freeB V B) = POrd.next n H l := POrd.least_congr (fun i hi => freeB_is HV.out I0.out hi)
      rw [hnx] at cl
      obtain ⟨nx, hnx⟩ : ∃ nx, POrd.next n H l = nx := ⟨_, rfl⟩
      rw [hnx] at cl
      have CL := Lib.hid cl
      have HNX := Lib.hid hnx
      clear cl hnx hBl
      cases nx with
      | none =>
        have CL : Hid (Calls Tryz.prog 60 #[.slice A n c, .int .u64 (B : Nat)] wr fun e w' => e = .returned (.int .i64 (-1)) ∧ wr = w') := CL
        have HSS : Hid (S = (none, POrd.first n l)) := Lib.hid (by
          rw [← I3.out, show n - l.length = (n - l.length - 1) + 1 by rw [HLN.out]; omega, POrd.sortF_stop (by rw [HLN.out]; exact hlt) HNX.out])
        have hct := ktz_any (18446744073709551615 - B) (by omega) wr (HT.out.on I4.out)
        rw [bset_first I0.out I1.out (by rw [HLN.out]; exact hlt) hn, ← bit_xor I0.out.lt] at hct
        have CT := Lib.hid hct
        clear HNX hct
        go_wp2_with (go_at_call 60; refine CL.out.mono ?_; rintro _ _ ⟨rfl, rfl⟩)
        go_wp2_with (go_at_call 61; refine CT.out.mono ?_; rintro _ _ ⟨rfl, rfl⟩)
        exact FIN2.out _ _ HSS.out I4.out
      | some ni =>
        have CL : Hid (Calls Tryz.prog 60 #[.slice A n c, .int .u64 (B : Nat)] wr fun e w' => e = .returned (.int .i64 ((ni : Nat) : Int)) ∧ wr = w') := CL
        have HSS : Hid (POrd.sortF n H (n - (l ++ [ni]).length) (l ++ [ni]) = S) := Lib.hid (by
          rw [← I3.out, show n - l.length = (n - (l ++ [ni]).length) + 1 by rw [List.length_append, HLN.out]; simp; omega, POrd.sortF_more (by rw [HLN.out]; exact hlt) HNX.out])
        have HG := Lib.hid (POrd.good0_snoc I1.out HNX.out)
        have hni : ni < n := (POrd.least_is HNX.out).1
        have HB2 := Lib.hid (bset_snoc I0.out (i := ni) (by omega))
        have hsz : w.heap.size ≤ wr.heap.size := I4.out.size
        have gni : ((ni : Int) == -1) = false := by rw [beq_eq_false_iff_ne]; omega
        clear HNX I3
        go_wp2_with (first | (go_at_call 60; refine CL.out.mono ?_; rintro _ _ ⟨rfl, rfl⟩) | (at_builtin; refine append_own1 doc_intTy rfl _ _ rfl w.heap.size _ ln (plI l) ((ni : Nat) : Int) (by rfl) I2.out (by rfl) (by omega) hsz ?_))
        intro v5 w5 ho5 hb5 hk5
        rw [← plI_snoc] at ho5
        obtain ⟨c5, q5, rfl, -⟩ : ∃ c5 q5, v5 = .slice c5 (ln + 1) q5 ∧ True := by
          obtain ⟨A5, q5, e5, -, -, -⟩ := slr_of_own ho5 (by rw [plI_len, List.length_append, HLN.out]; rfl)
          exact ⟨A5, q5, e5, trivial⟩
        have O5 := Lib.hid ho5
        have B5 := Lib.hid (I4.out.trans hb5)
        have hl1 : (l ++ [ni]).length = ln + 1 := by rw [List.length_append, HLN.out]; rfl
        have HL1 := Lib.hid hl1
        clear ho5 hb5 hk5 hsz hl1 I2 I4
        go_wp2_with fail
        exact ⟨⟨l ++ [ni], B ||| 2 ^ ni, HL1.out.symm, congrArg (Value.int IntKind.u64) (bit_or2 I0.out.lt (by omega)), HB2, HG, Lib.hid (by rw [HL1.out]; exact O5.out), HSS, B5⟩, by simp only [lenOf]; omega⟩
    · obtain rfl : ln = n := by omega
      have HSS : Hid (S = (some l, 0)) := Lib.hid (by rw [← I3.out, POrd.sortF_done (by rw [HLN.out]; omega)])
      have gl : ¬ (ln : Int) < (ln : Int) := by omega
      clear hlt
      go_wp2_with fail
      have := FIN1.out l LA lc _ HSS.out (by rw [HLN.out]; exact HSL.out) (by rw [HLN.out]; have := HL0.out; rw [HLN.out] at this; exact this) I4.out
      rw [HLN.out] at this
      exact this
end Go.Proofs.YtdkcdgjpcojdfaaGreatDoor
