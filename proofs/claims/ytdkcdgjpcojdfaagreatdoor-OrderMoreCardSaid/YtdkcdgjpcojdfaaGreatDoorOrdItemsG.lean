/-
  Rules of one word each, one behind the other: their text, and what it is read to. Plain facts; no program is named here.
-/
import Derived.Test.YtdkcdgjpcojdfaaGreatDoorTR
import Derived.Test.YtdkcdgjpcojdfaaGreatDoorPM

namespace PTree
open PLex (Tok Lone kindOf)

/-- A rule of one word. -/
structure It where
  kw : List UInt8
  nm : List UInt8
  lk : Nat
  lf : List UInt8
  tr : Tr
def wordL : List (List UInt8) := [[105, 102], [45], [40], [109, 105, 110], [109, 97, 120]]
structure It.Ok (x : It) : Prop where
  kw : x.kw ∈ kinds
  k1 : Lone kindOf 1 x.kw
  n1 : Lone kindOf 1 x.nm
  nt : x.nm ∉ takenL
  l1 : Lone kindOf x.lk x.lf
  lt : ∀ p, leaf ⟨x.lk, x.lf, p⟩ = some x.tr
  no : ∀ p r, textOf (⟨x.lk, x.lf, p⟩ :: r) ∉ wordL
  sz : x.tr.size = 1
  ln : x.kw.length + x.nm.length + x.lf.length ≤ 12
def It.rl (x : It) : Rl := ⟨x.kw, x.nm, x.tr⟩
def It.tx (x : It) : List UInt8 := x.kw ++ 32 :: (x.nm ++ 32 :: ([61] ++ 32 :: (x.lf ++ [59])))
def txs (sep : List UInt8) (L : List It) : List UInt8 := L.flatMap (fun x => x.tx ++ sep)
theorem txs_snoc (sep : List UInt8) (L : List It) (x : It) : txs sep (L ++ [x]) = txs sep L ++ (x.tx ++ sep) := by
  unfold txs; rw [List.flatMap_append]; simp
theorem txs_len {sep : List UInt8} (hs : sep.length ≤ 1) : ∀ (L : List It), (∀ x ∈ L, x.Ok) → (txs sep L).length ≤ 18 * L.length
  | [], _ => Nat.le_refl _
  | x :: L, h => by
    have h1 := (h x (List.mem_cons_self ..)).ln
    have h2 := txs_len hs L (fun y hy => h y (List.mem_cons_of_mem _ hy))
    have e : txs sep (x :: L) = (x.tx ++ sep) ++ txs sep L := by unfold txs; rw [List.flatMap_cons]
    rw [e]
    simp only [It.tx, List.length_append, List.length_cons, List.length_nil]
    omega
theorem lone_all {k : Nat} {u : List UInt8} (h : PLex.all kindOf 0 u = (none, [⟨k, u, 0⟩])) : Lone kindOf k u := by
  have hl := PLex.all_lone (K := kindOf) u.length 0 u (Nat.le_refl _)
  rw [h] at hl
  exact hl _ (List.mem_singleton.2 rfl)
theorem sep_semi : PLex.Sep 59 := by unfold PLex.Sep; decide
theorem eqs_lone : Lone kindOf 5 [61] := ⟨61, [], rfl, by decide, by decide, by decide⟩
theorem all_semi (p : Nat) (t : List UInt8) : PLex.all kindOf p (59 :: t) = ((PLex.all kindOf (p + 1) t).1, ⟨5, [59], p⟩ :: (PLex.all kindOf (p + 1) t).2) := by
  have h : PLex.step kindOf (59 :: t) = (5, 1) := by cases t <;> rfl
  rw [PLex.all_cons, h]
  rfl
/-- The tokens of rules. -/
def ItToks : List It → List Tok → Prop
  | [], ts => ts = []
  | x :: L, ts => ∃ p1 p2 p3 p4 p5 us, ts = ⟨1, x.kw, p1⟩ :: ⟨1, x.nm, p2⟩ :: ⟨5, [61], p3⟩ :: ⟨x.lk, x.lf, p4⟩ :: ⟨5, [59], p5⟩ :: us ∧ ItToks L us
theorem lex_items {sep : List UInt8} (hs : sep = [] ∨ sep = [10]) : ∀ (L : List It) (p : Nat), (∀ x ∈ L, x.Ok) → ∃ ts, PLex.all kindOf p (txs sep L) = (none, ts) ∧ ItToks L ts
  | [], p, _ => ⟨[], rfl, rfl⟩
  | x :: L, p, h => by
    have hx := h x (List.mem_cons_self ..)
    have hn : ∀ q, ∃ ts, PLex.all kindOf q (sep ++ txs sep L) = (none, ts) ∧ ItToks L ts := fun q => by
      have ih := fun q => lex_items hs L q (fun y hy => h y (List.mem_cons_of_mem _ hy))
      rcases hs with rfl | rfl
      · exact ih q
      · show ∃ ts, PLex.all kindOf q (10 :: txs [10] L) = (none, ts) ∧ ItToks L ts
        rw [PLex.all_line]; exact ih (q + 1)
    have e : txs sep (x :: L) = x.kw ++ 32 :: (x.nm ++ 32 :: ([61] ++ 32 :: (x.lf ++ 59 :: (sep ++ txs sep L)))) := by
      unfold txs; rw [List.flatMap_cons]; simp [It.tx]
    rw [e, PLex.all_word hx.k1 PLex.sep_blank, PLex.all_blank, PLex.all_word hx.n1 PLex.sep_blank, PLex.all_blank, PLex.all_word eqs_lone PLex.sep_blank, PLex.all_blank, PLex.all_word hx.l1 sep_semi, all_semi]
    obtain ⟨ts, e1, ht⟩ := hn (p + x.kw.length + 1 + x.nm.length + 1 + ([61] : List UInt8).length + 1 + x.lf.length + 1)
    rw [e1]
    exact ⟨_, rfl, _, _, _, _, _, ts, rfl, ht⟩
theorem word_whole {en : Nat} {x : It} (hx : x.Ok) (p q : Nat) (us : List Tok) : ex en .whole 1 (⟨x.lk, x.lf, p⟩ :: ⟨5, [59], q⟩ :: us) = some (.ok (⟨5, [59], q⟩ :: us) x.tr) := by
  have hn := hx.no p (⟨5, [59], q⟩ :: us)
  simp only [wordL, List.mem_cons, List.not_mem_nil, or_false, not_or] at hn
  obtain ⟨n1, n2, n3, n4, n5⟩ := hn
  have hf : ex en .factor 1 (⟨x.lk, x.lf, p⟩ :: ⟨5, [59], q⟩ :: us) = some (.ok (⟨5, [59], q⟩ :: us) x.tr) := by
    rw [ex_eq]
    simp only [body]
    rw [if_neg (by decide), if_neg n2, if_neg n3, if_neg (by rw [not_or]; exact ⟨n4, n5⟩), hx.lt p]
  rw [ex_chain0 (by decide) n1, ex_chain1, ex_chain2, hf]
  simp only [R.next]
  rw [more_no (by show ([59] : List UInt8) ∉ level 2; decide)]
  simp only []
  rw [more_no (by show ([59] : List UInt8) ∉ level 1; decide)]
  simp only []
  exact more_no (by show ([59] : List UInt8) ∉ level 0; decide)
theorem rules_items {en : Nat} : ∀ (L : List It) (c : Nat) (ts : List Tok), (∀ x ∈ L, x.Ok) → c + L.length ≤ 60 → ItToks L ts → rules en c ts = some (.ok [] (L.map It.rl))
  | [], c, _, _, _, rfl => rfl
  | x :: L, c, _, h, hc, ⟨p1, p2, p3, p4, p5, us, rfl, ht⟩ => by
    simp only [List.length_cons] at hc
    have ih := rules_items (en := en) L (c + 1) us (fun y hy => h y (List.mem_cons_of_mem _ hy)) (by omega) ht
    have hx := h x (List.mem_cons_self ..)
    have e1 : must en [61] (⟨5, [61], p3⟩ :: ⟨x.lk, x.lf, p4⟩ :: ⟨5, [59], p5⟩ :: us) = some (.ok (⟨x.lk, x.lf, p4⟩ :: ⟨5, [59], p5⟩ :: us) ()) := rfl
    have e2 := word_whole (en := en) hx p4 p5 us
    have e3 : must en [59] (⟨5, [59], p5⟩ :: us) = some (.ok us ()) := rfl
    rw [rules_cons, if_neg (fun k => k hx.kw), if_neg (by omega)]
    simp only []
    rw [if_neg (fun k => k.elim (fun k => k rfl) hx.nt), e1]
    simp only [R.next, e2, e3, ih]
    rfl
theorem parse_items {sep : List UInt8} (hs : sep = [] ∨ sep = [10]) {L : List It} (h : ∀ x ∈ L, x.Ok) (hl : L.length ≤ 60) : parse (txs sep L) = some (.ok [] (L.map It.rl)) := by
  obtain ⟨ts, e, ht⟩ := lex_items hs L 0 h
  unfold parse
  rw [e]
  exact rules_items L 0 ts h (by omega) ht
theorem items_size : ∀ {L : List It}, (∀ x ∈ L, x.Ok) → sizeOf (L.map It.rl) = L.length
  | [], _ => rfl
  | x :: L, h => by
    have ih := items_size (L := L) (fun y hy => h y (List.mem_cons_of_mem _ hy))
    have e : sizeOf ((x :: L).map It.rl) = x.tr.size + sizeOf (L.map It.rl) := by unfold sizeOf; simp [It.rl]
    rw [e, ih, (h x (List.mem_cons_self ..)).sz, List.length_cons]; omega

/-- The names of rules by their numbers. -/
def digI (i : Nat) : List UInt8 := if i < 10 then [48 + UInt8.ofNat i] else [48 + UInt8.ofNat (i / 10 % 10), 48 + UInt8.ofNat (i % 10)]
theorem digI_len (i : Nat) : (digI i).length ≤ 2 := by unfold digI; split <;> simp
def nmI (i : Nat) : List UInt8 := 114 :: digI i
def nmOk (i : Nat) : Bool := decide (PLex.all kindOf 0 (nmI i) = (none, [⟨1, nmI i, 0⟩])) && (decide (nmI i ∉ takenL) && (decide (nmI i ∉ wordL) && decide ((nmI i).length ≤ 3)))
set_option maxRecDepth 100000 in
theorem nm_all : ((List.range 41).all nmOk) = true := by decide +kernel
theorem nm_at {i : Nat} (h : i < 41) : Lone kindOf 1 (nmI i) ∧ nmI i ∉ takenL ∧ nmI i ∉ wordL ∧ (nmI i).length ≤ 3 := by
  have h1 := List.all_eq_true.1 nm_all i (List.mem_range.2 h)
  unfold nmOk at h1
  simp only [Bool.and_eq_true, decide_eq_true_eq] at h1
  exact ⟨lone_all h1.1, h1.2.1, h1.2.2.1, h1.2.2.2⟩
def inL : List (List UInt8) := [[98, 97, 115, 101], [98, 111, 110, 117, 115], [104, 111, 117, 114, 115], [100, 97, 121, 115], [108, 101, 97, 100]]
set_option maxRecDepth 100000 in
theorem nm_two : ((List.range 41).all fun i => decide (nmI i ∉ inL) && (List.range 41).all fun j => decide (nmI i = nmI j → i = j)) = true := by decide +kernel
theorem nm_in {i : Nat} (h : i < 41) : nmI i ∉ inL := by
  have h1 := List.all_eq_true.1 nm_two i (List.mem_range.2 h)
  rw [Bool.and_eq_true] at h1
  exact of_decide_eq_true h1.1
theorem nm_inj {i j : Nat} (hi : i < 41) (hj : j < 41) (e : nmI i = nmI j) : i = j := by
  have h1 := List.all_eq_true.1 nm_two i (List.mem_range.2 hi)
  rw [Bool.and_eq_true] at h1
  exact of_decide_eq_true (List.all_eq_true.1 h1.2 j (List.mem_range.2 hj)) e
def letW : List UInt8 := [108, 101, 116]
def earnW : List UInt8 := [101, 97, 114, 110]
theorem letW_lone : Lone kindOf 1 letW := lone_all (by decide +kernel)
theorem earnW_lone : Lone kindOf 1 earnW := lone_all (by decide +kernel)
def baseW : List UInt8 := [98, 97, 115, 101]
def hoursW : List UInt8 := [104, 111, 117, 114, 115]
theorem baseW_lone : Lone kindOf 1 baseW := lone_all (by decide +kernel)
theorem hoursW_lone : Lone kindOf 1 hoursW := lone_all (by decide +kernel)
theorem oneW_lone : Lone kindOf 2 [49] := lone_all (by decide +kernel)
/-- A rule of a name. -/
theorem leaf_word {s : List UInt8} (h : s ∉ takenL) (p : Nat) : leaf ⟨1, s, p⟩ = some (.name s) := by
  unfold leaf
  simp only []
  rw [if_pos trivial, if_neg h]
/-- Each rule is the next one's name. -/
def chI (m : Nat) (rd : Bool) (i : Nat) : It :=
  if i + 1 < m then ⟨letW, nmI i, 1, nmI (i + 1), .name (nmI (i + 1))⟩ else if rd = true then ⟨letW, nmI i, 1, nmI 0, .name (nmI 0)⟩ else ⟨letW, nmI i, 2, [49], .whole 1⟩
def chL (m : Nat) (rd : Bool) (t : Nat) : List It := (List.range t).map (chI m rd)
theorem chL_snoc (m : Nat) (rd : Bool) (t : Nat) : chL m rd (t + 1) = chL m rd t ++ [chI m rd t] := by unfold chL; rw [List.range_succ, List.map_append]; rfl
theorem chL_len (m : Nat) (rd : Bool) (t : Nat) : (chL m rd t).length = t := by unfold chL; simp
theorem word_ok {k : List UInt8} (hk : k ∈ kinds) (h1 : Lone kindOf 1 k) (hl : k.length ≤ 4) {i : Nat} (hi : i < 41) {s : List UInt8} (h2 : Lone kindOf 1 s) (h3 : s ∉ takenL) (h4 : s ∉ wordL) (h5 : s.length ≤ 5) : It.Ok ⟨k, nmI i, 1, s, .name s⟩ := by
  obtain ⟨a1, a2, a3, a4⟩ := nm_at hi
  exact ⟨hk, h1, a1, a2, h2, leaf_word h3, fun p r => h4, rfl, by show k.length + (nmI i).length + s.length ≤ 12; omega⟩
theorem chI_ok {m : Nat} (hm : m ≤ 40) (rd : Bool) {i : Nat} (hi : i < m) : (chI m rd i).Ok := by
  unfold chI
  by_cases h : i + 1 < m
  · rw [if_pos h]
    obtain ⟨b1, b2, b3, b4⟩ := nm_at (i := i + 1) (by omega)
    exact word_ok (by decide) letW_lone (by decide) (by omega) b1 b2 b3 (by omega)
  · rw [if_neg h]
    by_cases hr : rd = true
    · rw [if_pos hr]
      obtain ⟨b1, b2, b3, b4⟩ := nm_at (i := 0) (by omega)
      exact word_ok (by decide) letW_lone (by decide) (by omega) b1 b2 b3 (by omega)
    · rw [if_neg hr]
      obtain ⟨a1, a2, a3, a4⟩ := nm_at (i := i) (by omega)
      exact ⟨(by show letW ∈ kinds; decide), letW_lone, a1, a2, oneW_lone, fun p => rfl, fun p r => by show ([] : List UInt8) ∉ wordL; decide, rfl, by show (letW).length + (nmI i).length + ([49] : List UInt8).length ≤ 12; simp [letW]; omega⟩
theorem chL_ok {m : Nat} (hm : m ≤ 40) (rd : Bool) {t : Nat} (ht : t ≤ m) : ∀ x ∈ chL m rd t, x.Ok := fun x hx => by
  obtain ⟨i, hi, rfl⟩ := List.mem_map.1 hx
  exact chI_ok hm rd (by have := List.mem_range.1 hi; omega)
/-- Each rule is a name that is there from the beginning. -/
def frI (f : Nat → Bool) (i : Nat) : It := if f i = true then ⟨earnW, nmI i, 1, baseW, .name baseW⟩ else ⟨earnW, nmI i, 1, hoursW, .name hoursW⟩
def frL (f : Nat → Bool) (t : Nat) : List It := (List.range t).map (frI f)
theorem frL_snoc (f : Nat → Bool) (t : Nat) : frL f (t + 1) = frL f t ++ [frI f t] := by unfold frL; rw [List.range_succ, List.map_append]; rfl
theorem frL_len (f : Nat → Bool) (t : Nat) : (frL f t).length = t := by unfold frL; simp
theorem frI_ok (f : Nat → Bool) {i : Nat} (hi : i < 41) : (frI f i).Ok := by
  unfold frI
  by_cases h : f i = true
  · rw [if_pos h]; exact word_ok (by decide) earnW_lone (by decide) hi baseW_lone (by decide) (by decide) (by decide)
  · rw [if_neg h]; exact word_ok (by decide) earnW_lone (by decide) hi hoursW_lone (by decide) (by decide) (by decide)
theorem frL_ok (f : Nat → Bool) {t : Nat} (ht : t ≤ 40) : ∀ x ∈ frL f t, x.Ok := fun x hx => by
  obtain ⟨i, hi, rfl⟩ := List.mem_map.1 hx
  exact frI_ok f (by have := List.mem_range.1 hi; omega)
end PTree
