/-
  How deep the shortest text of a tree is read: never deeper than the text that it was read of. Plain facts; no program is named here.
  The tokens of a tree's shortest text are read to it. Plain facts; no program is named here.
  What is read of tokens has a text whose tokens say it. Plain facts; no program is named here.
  The tokens of the shortest text of what is read weigh no more than those that it was read of, whatever a token weighs; and each leaf of it stands by itself. Plain facts; no program is named here.
  The shortest text of rules, byte by byte: it is lexed to its tokens, and read back. Plain facts; no program is named here.
  How any program's expressions are written: their forms, which ones are free of others, their texts. Plain facts; no program is named here.
  What is read of a text is in order, and its expressions' texts are its trees'. Plain facts; no program is named here.
  Rules in an order: which one is there twice, which hang on which, the least free one next. Plain facts; no program is named here.
  What the text of an expression is made of: pieces, each a text and the place of the expression whose text follows; their texts in a row are its text; how many there are in all.
  Which bytes the shortest text has: as many of one as its tokens have, and those of a text no more than it; a byte 10 behind each rule, and nowhere else. Plain facts; no program is named here.
  How long the texts of what was read are, how many pieces they have, how great its numbers are. Plain facts; no program is named here.
-/
import Derived.Test.YtdkcdgjpcojdfaaGreatDoorTQ
import Derived.Test.YtdkcdgjpcojdfaaGreatDoorPM
import Derived.Test.YtdkcdgjpcojdfaaGreatDoorMC
import Derived.Lib.ItoaLen

namespace PTree
open PLex (Tok)

def rank : Tr → Nat
  | .bin op _ _ => if op ∈ level 0 then 0 else if op ∈ level 1 then 1 else if op ∈ level 2 then 2 else 3
  | .cond _ _ _ => 0
  | _ => 3
theorem rank_le (t : Tr) : rank t ≤ 3 := by
  cases t with
  | bin op a b =>
    simp only [rank]
    (repeat' split) <;> omega
  | _ => simp [rank]
def heldD (r least d : Nat) : Nat := if r < least then d + 1 else d
def dep : Tr → Nat
  | .neg a => heldD (rank a) 3 (dep a) + 1
  | .bin op a b =>
    if op ∈ level 0 then max (heldD (rank a) 1 (dep a)) (heldD (rank b) 1 (dep b))
    else if op ∈ level 1 then max (heldD (rank a) 1 (dep a)) (heldD (rank b) 2 (dep b))
    else if op ∈ level 2 then max (heldD (rank a) 2 (dep a)) (heldD (rank b) 3 (dep b))
    else max (dep a) (dep b) + 1
  | .cond a b c => max (max (dep a) (dep b)) (dep c) + 1
  | _ => 0
def DH (t : Tr) (least : Nat) : Nat := heldD (rank t) least (dep t)
theorem heldD_mono {r d m n : Nat} (h : m ≤ n) : heldD r m d ≤ heldD r n d := by unfold heldD; (repeat' split) <;> omega
theorem DH_mono {t : Tr} {m n : Nat} (h : m ≤ n) : DH t m ≤ DH t n := heldD_mono h
theorem DH_zero (t : Tr) : DH t 0 = dep t := by unfold DH heldD; rw [if_neg (by omega)]
theorem DH_le (t : Tr) (n : Nat) : DH t n ≤ dep t + 1 := by unfold DH heldD; split <;> omega
theorem DH_own {t : Tr} {n : Nat} (h : n ≤ rank t) : DH t n = dep t := by unfold DH heldD; rw [if_neg (by omega)]
theorem levels_apart : (∀ s ∈ level 0, s ∉ level 1 ∧ s ∉ level 2) ∧ (∀ s ∈ level 1, s ∉ level 0 ∧ s ∉ level 2) ∧ ∀ s ∈ level 2, s ∉ level 0 ∧ s ∉ level 1 := by
  refine ⟨by decide, by decide, ?_⟩
  show ∀ s ∈ ([[42]] : List (List UInt8)), _
  decide
theorem level_two {n : Nat} (h : 2 ≤ n) : level n = level 2 := by
  match n, h with
  | n + 2, _ => rfl
def Deep (d : Nat) : Md → Tr → Prop
  | .whole, t => d + dep t ≤ 20
  | .chain n, t => d + DH t (min n 3) ≤ 20
  | .more n _, t => d + DH t (min n 3) ≤ 20
  | .factor, t => d + DH t 3 ≤ 20
def Deep0 (d : Nat) : Md → Prop
  | .more n a => n ≤ 2 ∧ d + DH a (max n 1) ≤ 20
  | _ => True
theorem run_deep (en : Nat) : ∀ (f : Nat) (m : Md) (d : Nat) (ts : List Tok), Deep0 d m → OpsA (Deep d m) (run en f m d ts) := by
  intro f
  induction f with
  | zero => intro m d ts _ t a e; cases e
  | succ f ih =>
    intro m d ts hm
    have W : ∀ d ts, OpsA (fun t => d + dep t ≤ 20) (run en f .whole d ts) := fun d ts => ih .whole d ts trivial
    have F : ∀ d ts, OpsA (fun t => d + DH t 3 ≤ 20) (run en f .factor d ts) := fun d ts => ih .factor d ts trivial
    have C : ∀ n d ts, OpsA (fun t => d + DH t (min n 3) ≤ 20) (run en f (.chain n) d ts) := fun n d ts => ih (.chain n) d ts trivial
    show OpsA _ (body en (run en f) m d ts)
    cases m with
    | whole =>
      simp only [body]
      by_cases h1 : 20 < d
      · rw [if_pos h1]; exact .bad
      rw [if_neg h1]
      by_cases h2 : textOf ts = [105, 102]
      · rw [if_pos h2]
        exact (W _ _).next fun t1 a k1 => (OpsA.any _).next fun t2 _ _ => (W _ _).next fun t3 b k3 => (OpsA.any _).next fun t4 _ _ => (W _ _).next fun t5 c k5 => .ok (by show d + dep (.cond a b c) ≤ 20; simp only [dep]; omega)
      · rw [if_neg h2]
        intro t1 a e
        have := C 0 d ts t1 a e
        have this : d + DH a 0 ≤ 20 := this
        rw [DH_zero] at this; exact this
    | chain n =>
      simp only [body]
      by_cases h1 : 3 ≤ n
      · rw [if_pos h1]
        intro t1 a e
        have := F d ts t1 a e
        show d + DH a (min n 3) ≤ 20
        rw [show min n 3 = 3 by omega]; exact this
      · rw [if_neg h1]
        refine (C (n + 1) d ts).next fun t1 a k1 => ?_
        have := ih (.more n a) d t1 ⟨by omega, Nat.le_trans (Nat.add_le_add_left (DH_mono (by omega)) d) k1⟩
        exact this
    | more n a =>
      obtain ⟨hn, ha⟩ := hm
      simp only [body]
      by_cases h1 : textOf ts ∈ level n
      · rw [if_pos h1]
        refine (C (n + 1) d ts.tail).next fun t1 b k1 => ?_
        by_cases h2 : n = 0
        · subst h2
          rw [if_pos rfl]
          refine .ok ?_
          show d + DH (.bin (textOf ts) a b) (min 0 3) ≤ 20
          rw [show min 0 3 = 0 from rfl, DH_zero]
          simp only [dep]
          rw [if_pos h1]
          have k1 : d + DH b 1 ≤ 20 := k1
          have ha : d + DH a 1 ≤ 20 := ha
          unfold DH at k1 ha
          omega
        · rw [if_neg h2]
          have hk : d + DH (.bin (textOf ts) a b) (max n 1) ≤ 20 := by
            have h12 : n = 1 ∨ n = 2 := by omega
            rcases h12 with rfl | rfl
            · have h0 := (levels_apart.2.1 _ h1).1
              have hr : rank (.bin (textOf ts) a b) = 1 := by simp only [rank]; rw [if_neg h0, if_pos h1]
              rw [DH_own (by rw [hr]; decide)]
              simp only [dep]
              rw [if_neg h0, if_pos h1]
              have k1 : d + DH b 2 ≤ 20 := k1
              have ha : d + DH a 1 ≤ 20 := ha
              unfold DH at k1 ha
              omega
            · have h0 := levels_apart.2.2 _ h1
              have hr : rank (.bin (textOf ts) a b) = 2 := by simp only [rank]; rw [if_neg h0.1, if_neg h0.2, if_pos h1]
              rw [DH_own (by rw [hr]; decide)]
              simp only [dep]
              rw [if_neg h0.1, if_neg h0.2, if_pos h1]
              have k1 : d + DH b 3 ≤ 20 := k1
              have ha : d + DH a 2 ≤ 20 := ha
              unfold DH at k1 ha
              omega
          exact ih (.more n _) d t1 ⟨hn, hk⟩
      · rw [if_neg h1]
        exact .ok (show d + DH a (min n 3) ≤ 20 from Nat.le_trans (Nat.add_le_add_left (DH_mono (by omega)) d) ha)
    | factor =>
      simp only [body]
      by_cases h1 : 20 < d
      · rw [if_pos h1]; exact .bad
      rw [if_neg h1]
      by_cases h2 : textOf ts = [45]
      · rw [if_pos h2]
        refine (F _ _).next fun t1 a k1 => .ok ?_
        show d + DH (.neg a) 3 ≤ 20
        rw [DH_own (by simp [rank])]
        simp only [dep]
        unfold DH at k1
        omega
      rw [if_neg h2]
      by_cases h3 : textOf ts = [40]
      · rw [if_pos h3]
        exact (W _ _).next fun t1 a k1 => (OpsA.any _).next fun t2 _ _ => .ok (by show d + DH a 3 ≤ 20; have := DH_le a 3; omega)
      rw [if_neg h3]
      by_cases h4 : textOf ts = [109, 105, 110] ∨ textOf ts = [109, 97, 120]
      · rw [if_pos h4]
        have ho : textOf ts ∉ level 0 ∧ textOf ts ∉ level 1 ∧ textOf ts ∉ level 2 := by
          rcases h4 with h4 | h4 <;> rw [h4]
          · exact ⟨by decide, by decide, by show _ ∉ ([[42]] : List (List UInt8)); decide⟩
          · exact ⟨by decide, by decide, by show _ ∉ ([[42]] : List (List UInt8)); decide⟩
        refine (OpsA.any _).next fun t1 _ _ => (W _ _).next fun t2 a k2 => (OpsA.any _).next fun t3 _ _ => (W _ _).next fun t4 b k4 => (OpsA.any _).next fun t5 _ _ => .ok ?_
        have hr : rank (.bin (textOf ts) a b) = 3 := by simp only [rank]; rw [if_neg ho.1, if_neg ho.2.1, if_neg ho.2.2]
        show d + DH (.bin (textOf ts) a b) 3 ≤ 20
        rw [DH_own (by rw [hr]; decide)]
        simp only [dep]
        rw [if_neg ho.1, if_neg ho.2.1, if_neg ho.2.2]
        omega
      rw [if_neg h4]
      cases ts with
      | nil => exact .bad
      | cons t r =>
        cases hl : leaf t with
        | none => simp only [hl]; exact .bad
        | some x =>
          simp only [hl]
          refine .ok ?_
          have hx : rank x = 3 ∧ dep x = 0 := by
            unfold leaf at hl
            (repeat' split at hl) <;> first | (cases hl; exact ⟨rfl, rfl⟩) | cases hl
          show d + DH x 3 ≤ 20
          rw [DH_own (by rw [hx.1]; decide), hx.2]
          omega
end PTree

namespace PTree
open PLex (Tok)

structure Tx where
  w : Nat → List UInt8
  a : Int → List UInt8
  r : Int → List UInt8
def tok1 (k : Nat) (s : List UInt8) : Tok := ⟨k, s, 0⟩
def heldT (r least : Nat) (l : List Tok) : List Tok := if r < least then tok1 5 [40] :: (l ++ [tok1 5 [41]]) else l
def tkT (X : Tx) : Tr → List Tok
  | .whole n => [tok1 2 (X.w n)]
  | .amount n => [tok1 3 (X.a n)]
  | .rate n => [tok1 4 (X.r n)]
  | .name s => [tok1 1 s]
  | .neg a => tok1 5 [45] :: heldT (rank a) 3 (tkT X a)
  | .bin op a b =>
    if op ∈ level 0 then heldT (rank a) 1 (tkT X a) ++ tok1 5 op :: heldT (rank b) 1 (tkT X b)
    else if op ∈ level 1 then heldT (rank a) 1 (tkT X a) ++ tok1 5 op :: heldT (rank b) 2 (tkT X b)
    else if op ∈ level 2 then heldT (rank a) 2 (tkT X a) ++ tok1 5 op :: heldT (rank b) 3 (tkT X b)
    else tok1 1 op :: tok1 5 [40] :: (tkT X a ++ tok1 5 [44] :: (tkT X b ++ [tok1 5 [41]]))
  | .cond a b c => tok1 1 [105, 102] :: (tkT X a ++ tok1 1 [116, 104, 101, 110] :: (tkT X b ++ tok1 1 [101, 108, 115, 101] :: tkT X c))
def Wf (X : Tx) : Tr → Prop
  | .whole n => leaf (tok1 2 (X.w n)) = some (.whole n)
  | .amount n => leaf (tok1 3 (X.a n)) = some (.amount n)
  | .rate n => leaf (tok1 4 (X.r n)) = some (.rate n)
  | .name s => s ∉ takenL ∧ s ∉ ([[], [45], [40]] : List (List UInt8))
  | .neg a => Wf X a
  | .bin op a b => op ∈ opsL ∧ Wf X a ∧ Wf X b
  | .cond a b c => Wf X a ∧ Wf X b ∧ Wf X c
def isCond : Tr → Bool
  | .cond _ _ _ => true
  | _ => false
def Free (n : Nat) (R : List Tok) : Prop := ∀ j, n ≤ j → textOf R ∉ level j
theorem Free.less {n m : Nat} {R : List Tok} (h : Free n R) (hm : n ≤ m) : Free m R := fun j hj => h j (by omega)
theorem free_tok {s : List UInt8} {R : List Tok} {k n : Nat} (h : ∀ j, n ≤ j → s ∉ level j) (hk : k = 1 ∨ k = 5) : Free n (tok1 k s :: R) := fun j hj => by
  have : textOf (tok1 k s :: R) = s := by show (if k = 1 ∨ k = 5 then s else []) = s; rw [if_pos hk]
  rw [this]; exact h j hj
theorem level_cases {P : List (List UInt8) → Prop} (h0 : P (level 0)) (h1 : P (level 1)) (h2 : P (level 2)) (j : Nat) : P (level j) := by
  match j with
  | 0 => exact h0
  | 1 => exact h1
  | n + 2 => exact h2
theorem close_free (n : Nat) (R : List Tok) : Free n (tok1 5 [41] :: R) := free_tok (fun j _ => level_cases (P := fun l => ([41] : List UInt8) ∉ l) (by decide) (by decide) (by show _ ∉ ([[42]] : List (List UInt8)); decide) j) (.inr rfl)
theorem comma_free (n : Nat) (R : List Tok) : Free n (tok1 5 [44] :: R) := free_tok (fun j _ => level_cases (P := fun l => ([44] : List UInt8) ∉ l) (by decide) (by decide) (by show _ ∉ ([[42]] : List (List UInt8)); decide) j) (.inr rfl)
theorem then_free (n : Nat) (R : List Tok) : Free n (tok1 1 [116, 104, 101, 110] :: R) := free_tok (fun j _ => level_cases (P := fun l => ([116, 104, 101, 110] : List UInt8) ∉ l) (by decide) (by decide) (by show _ ∉ ([[42]] : List (List UInt8)); decide) j) (.inl rfl)
theorem else_free (n : Nat) (R : List Tok) : Free n (tok1 1 [101, 108, 115, 101] :: R) := free_tok (fun j _ => level_cases (P := fun l => ([101, 108, 115, 101] : List UInt8) ∉ l) (by decide) (by decide) (by show _ ∉ ([[42]] : List (List UInt8)); decide) j) (.inl rfl)
theorem semi_free (n : Nat) (R : List Tok) : Free n (tok1 5 [59] :: R) := free_tok (fun j _ => level_cases (P := fun l => ([59] : List UInt8) ∉ l) (by decide) (by decide) (by show _ ∉ ([[42]] : List (List UInt8)); decide) j) (.inr rfl)
variable {X : Tx} {en : Nat}
theorem more_free {n : Nat} {t : Tr} {d : Nat} {R : List Tok} (h : textOf R ∉ level n) : ex en (.more n t) d R = some (.ok R t) := by
  rw [ex_eq]; simp only [body]; rw [if_neg h]
theorem must_mk {k : Nat} {s : List UInt8} {R : List Tok} (hk : k = 1 ∨ k = 5) : must en s (tok1 k s :: R) = some (.ok R ()) := by
  unfold must
  have : textOf (tok1 k s :: R) = s := by show (if k = 1 ∨ k = 5 then s else []) = s; rw [if_pos hk]
  rw [if_pos this]; rfl
theorem head_held {r least : Nat} {l R : List Tok} (h : ¬ r < least → textOf (l ++ R) ≠ [105, 102]) : textOf (heldT r least l ++ R) ≠ [105, 102] := by
  unfold heldT
  by_cases hr : r < least
  · rw [if_pos hr]
    show (if (5 : Nat) = 1 ∨ (5 : Nat) = 5 then ([40] : List UInt8) else []) ≠ _
    decide
  · rw [if_neg hr]; exact h hr
theorem rank_cond {t : Tr} {n : Nat} (h : ¬ rank t < n) (hn : 1 ≤ n) : isCond t = false := by
  cases t with
  | cond a b c => simp only [rank] at h; omega
  | _ => rfl
theorem head_if : ∀ (t : Tr), Wf X t → isCond t = false → ∀ R, textOf (tkT X t ++ R) ≠ [105, 102]
  | .whole n, _, _, R => by show (if (2 : Nat) = 1 ∨ (2 : Nat) = 5 then X.w n else []) ≠ _; rw [if_neg (by decide)]; decide
  | .amount n, _, _, R => by show (if (3 : Nat) = 1 ∨ (3 : Nat) = 5 then X.a n else []) ≠ _; rw [if_neg (by decide)]; decide
  | .rate n, _, _, R => by show (if (4 : Nat) = 1 ∨ (4 : Nat) = 5 then X.r n else []) ≠ _; rw [if_neg (by decide)]; decide
  | .name s, h, _, R => by
    show (if (1 : Nat) = 1 ∨ (1 : Nat) = 5 then s else []) ≠ _
    rw [if_pos (.inl rfl)]
    rintro rfl
    exact h.1 (by decide)
  | .neg a, _, _, R => by show (if (5 : Nat) = 1 ∨ (5 : Nat) = 5 then ([45] : List UInt8) else []) ≠ _; decide
  | .bin op a b, h, _, R => by
    have ha : ∀ least, 1 ≤ least → ∀ S, textOf (heldT (rank a) least (tkT X a) ++ S) ≠ [105, 102] := fun least hl S => head_held (fun hr => head_if a h.2.1 (rank_cond hr hl) S)
    simp only [tkT]
    by_cases h0 : op ∈ level 0
    · rw [if_pos h0, List.append_assoc]; exact ha 1 (Nat.le_refl _) _
    rw [if_neg h0]
    by_cases h1 : op ∈ level 1
    · rw [if_pos h1, List.append_assoc]; exact ha 1 (Nat.le_refl _) _
    rw [if_neg h1]
    by_cases h2 : op ∈ level 2
    · rw [if_pos h2, List.append_assoc]; exact ha 2 (by omega) _
    rw [if_neg h2]
    show (if (1 : Nat) = 1 ∨ (1 : Nat) = 5 then op else []) ≠ _
    rw [if_pos (.inl rfl)]
    rintro rfl
    exact absurd h.1 (by decide)
  | .cond _ _ _, _, h, _ => by cases h
structure Reads (X : Tx) (en : Nat) (t : Tr) : Prop where
  whole : ∀ d R, d + dep t ≤ 20 → Free 0 R → ex en .whole d (tkT X t ++ R) = some (.ok R t)
  one : ∀ d R, d + DH t 1 ≤ 20 → Free 2 R → ex en (.chain 1) d (heldT (rank t) 1 (tkT X t) ++ R) = ex en (.more 1 t) d R
  two : ∀ d R, d + DH t 2 ≤ 20 → ex en (.chain 2) d (heldT (rank t) 2 (tkT X t) ++ R) = ex en (.more 2 t) d R
  factor : ∀ d R, d + DH t 3 ≤ 20 → ex en .factor d (heldT (rank t) 3 (tkT X t) ++ R) = some (.ok R t)
theorem chain3 (d : Nat) (ts : List Tok) : ex en (.chain 3) d ts = ex en .factor d ts := by rw [ex_eq]; simp only [body]; rw [if_pos (Nat.le_refl _)]
theorem Reads.make {t : Tr} (hr : rank t ≤ 3)
    (W : ∀ d Z, d + dep t ≤ 20 → Free 0 Z → ex en .whole d (tkT X t ++ Z) = some (.ok Z t))
    (F : rank t = 3 → ∀ d Z, d + dep t ≤ 20 → ex en .factor d (tkT X t ++ Z) = some (.ok Z t))
    (P : rank t = 2 → ∀ d Z, d + dep t ≤ 20 → ex en (.chain 2) d (tkT X t ++ Z) = ex en (.more 2 t) d Z)
    (S : rank t = 1 → ∀ d Z, d + dep t ≤ 20 → Free 2 Z → ex en (.chain 1) d (tkT X t ++ Z) = ex en (.more 1 t) d Z) : Reads X en t := by
  have F' : ∀ d Z, d + DH t 3 ≤ 20 → ex en .factor d (heldT (rank t) 3 (tkT X t) ++ Z) = some (.ok Z t) := by
    intro d Z hd
    unfold heldT
    by_cases h3 : rank t < 3
    · rw [if_pos h3]
      have hd' : d + 1 + dep t ≤ 20 := by unfold DH heldD at hd; rw [if_pos h3] at hd; omega
      rw [ex_eq]
      simp only [body, List.cons_append]
      have ht : textOf (tok1 5 [40] :: (tkT X t ++ [tok1 5 [41]] ++ Z)) = [40] := rfl
      rw [if_neg (by omega), ht, if_neg (by decide), if_pos rfl]
      show R.next (ex en .whole (d + 1) (tkT X t ++ [tok1 5 [41]] ++ Z)) _ = _
      rw [List.append_assoc, W (d + 1) ([tok1 5 [41]] ++ Z) hd' (close_free 0 Z)]
      show R.next (must en [41] (tok1 5 [41] :: Z)) (fun t2 _ => some (.ok t2 t)) = _
      rw [must_mk (.inr rfl)]
      rfl
    · rw [if_neg h3]
      have : DH t 3 = dep t := DH_own (by omega)
      exact F (by omega) d Z (by omega)
  have P' : ∀ d Z, d + DH t 2 ≤ 20 → ex en (.chain 2) d (heldT (rank t) 2 (tkT X t) ++ Z) = ex en (.more 2 t) d Z := by
    intro d Z hd
    by_cases h2 : rank t = 2
    · have hh : heldT (rank t) 2 (tkT X t) = tkT X t := by unfold heldT; rw [if_neg (by omega)]
      rw [hh]
      exact P h2 d Z (by have : DH t 2 = dep t := DH_own (by omega); omega)
    · have hh : heldT (rank t) 2 (tkT X t) = heldT (rank t) 3 (tkT X t) := by
        unfold heldT
        by_cases h : rank t < 2
        · rw [if_pos h, if_pos (by omega)]
        · rw [if_neg h, if_neg (by omega)]
      have hd3 : DH t 3 = DH t 2 := by
        unfold DH heldD
        by_cases h : rank t < 2
        · rw [if_pos h, if_pos (by omega)]
        · rw [if_neg h, if_neg (by omega)]
      rw [hh, ex_eq]
      simp only [body]
      rw [if_neg (by omega), chain3, F' d Z (by omega)]
      rfl
  refine ⟨W, ?_, P', F'⟩
  intro d Z hd hf
  by_cases h1 : rank t = 1
  · have hh : heldT (rank t) 1 (tkT X t) = tkT X t := by unfold heldT; rw [if_neg (by omega)]
    rw [hh]
    exact S h1 d Z (by have : DH t 1 = dep t := DH_own (by omega); omega) hf
  · have hh : heldT (rank t) 1 (tkT X t) = heldT (rank t) 2 (tkT X t) := by
      unfold heldT
      by_cases h : rank t < 1
      · rw [if_pos h, if_pos (by omega)]
      · rw [if_neg h, if_neg (by omega)]
    have hd2 : DH t 2 = DH t 1 := by
      unfold DH heldD
      by_cases h : rank t < 1
      · rw [if_pos h, if_pos (by omega)]
      · rw [if_neg h, if_neg (by omega)]
    rw [hh, ex_eq]
    simp only [body]
    rw [if_neg (by omega), P' d Z (by omega), more_free (hf 2 (Nat.le_refl _))]
    rfl
theorem nx {α β : Type} {ts : List Tok} {a : α} {k : List Tok → α → Option (R β)} : R.next (some (.ok ts a)) k = k ts a := rfl
theorem tok_text {k : Nat} {s : List UInt8} {Z : List Tok} (hk : k = 1 ∨ k = 5) : textOf (tok1 k s :: Z) = s := by show (if k = 1 ∨ k = 5 then s else []) = s; rw [if_pos hk]
theorem Reads.make' {t : Tr} (hw : Wf X t) (hc : isCond t = false)
    (F : rank t = 3 → ∀ d Z, d + dep t ≤ 20 → ex en .factor d (tkT X t ++ Z) = some (.ok Z t))
    (P : rank t = 2 → ∀ d Z, d + dep t ≤ 20 → ex en (.chain 2) d (tkT X t ++ Z) = ex en (.more 2 t) d Z)
    (S : rank t = 1 → ∀ d Z, d + dep t ≤ 20 → Free 2 Z → ex en (.chain 1) d (tkT X t ++ Z) = ex en (.more 1 t) d Z)
    (C : rank t = 0 → ∀ d Z, d + dep t ≤ 20 → Free 0 Z → ex en (.chain 0) d (tkT X t ++ Z) = some (.ok Z t)) : Reads X en t := by
  have hr := rank_le t
  have R2 : 2 ≤ rank t → ∀ d Z, d + dep t ≤ 20 → ex en (.chain 2) d (tkT X t ++ Z) = ex en (.more 2 t) d Z := by
    intro h d Z hd
    by_cases h2 : rank t = 2
    · exact P h2 d Z hd
    · rw [ex_eq]
      simp only [body]
      rw [if_neg (by omega), chain3, F (by omega) d Z hd]
      rfl
  have R1 : 1 ≤ rank t → ∀ d Z, d + dep t ≤ 20 → Free 2 Z → ex en (.chain 1) d (tkT X t ++ Z) = ex en (.more 1 t) d Z := by
    intro h d Z hd hf
    by_cases h1 : rank t = 1
    · exact S h1 d Z hd hf
    · rw [ex_eq]
      simp only [body]
      rw [if_neg (by omega), R2 (by omega) d Z hd, more_free (hf 2 (Nat.le_refl _))]
      rfl
  have R0 : ∀ d Z, d + dep t ≤ 20 → Free 0 Z → ex en (.chain 0) d (tkT X t ++ Z) = some (.ok Z t) := by
    intro d Z hd hf
    by_cases h0 : rank t = 0
    · exact C h0 d Z hd hf
    · rw [ex_eq]
      simp only [body]
      rw [if_neg (by omega), R1 (by omega) d Z hd (hf.less (by omega)), more_free (hf 1 (by omega))]
      show ex en (.more 0 t) d Z = _
      rw [more_free (hf 0 (Nat.le_refl _))]
  refine Reads.make hr (fun d Z hd hf => ?_) F P S
  rw [ex_eq]
  simp only [body]
  rw [if_neg (by omega), if_neg (head_if t hw hc Z)]
  exact R0 d Z hd hf
theorem reads_leaf {t : Tr} {u : Tok} (hw : Wf X t) (hc : isCond t = false) (hu : tkT X t = [u]) (hl : leaf u = some t) (hk : u.kind = 2 ∨ u.kind = 3 ∨ u.kind = 4 ∨ (u.kind = 1 ∧ u.text ∉ takenL ∧ u.text ∉ ([[], [45], [40]] : List (List UInt8)))) (hr : rank t = 3) : Reads X en t := by
  have htx : ∀ Z s, s ∈ ([[45], [40], [109, 105, 110], [109, 97, 120]] : List (List UInt8)) → textOf (u :: Z) ≠ s := by
    intro Z s hs e
    have e' : (if u.kind = 1 ∨ u.kind = 5 then u.text else []) = s := e
    rcases hk with h | h | h | ⟨h, h2, h3⟩
    · rw [if_neg (by omega)] at e'; subst e'; revert hs; decide
    · rw [if_neg (by omega)] at e'; subst e'; revert hs; decide
    · rw [if_neg (by omega)] at e'; subst e'; revert hs; decide
    · rw [if_pos (.inl h)] at e'
      rw [e'] at h2 h3
      simp only [List.mem_cons, List.not_mem_nil, or_false] at hs
      rcases hs with rfl | rfl | rfl | rfl
      · exact h3 (by decide)
      · exact h3 (by decide)
      · exact h2 (by decide)
      · exact h2 (by decide)
  refine Reads.make' hw hc (fun _ d Z h => ?_) (fun h => by omega) (fun h => by omega) (fun h => by omega)
  rw [hu, ex_eq]
  simp only [body, List.cons_append, List.nil_append]
  rw [if_neg (by omega), if_neg (htx Z _ (by decide)), if_neg (htx Z _ (by decide)), if_neg (fun h => h.elim (htx Z _ (by decide)) (htx Z _ (by decide))), hl]
theorem reads_neg {a : Tr} (hw : Wf X a) (ha : Reads X en a) : Reads X en (.neg a) := by
  refine Reads.make' (t := .neg a) hw rfl (fun _ d Z h => ?_) (fun h => by simp [rank] at h) (fun h => by simp [rank] at h) (fun h => by simp [rank] at h)
  have hd : d + 1 + DH a 3 ≤ 20 := by simp only [dep] at h; unfold DH; omega
  have ht : textOf (tkT X (.neg a) ++ Z) = [45] := rfl
  have htl : (tkT X (.neg a) ++ Z).tail = heldT (rank a) 3 (tkT X a) ++ Z := rfl
  rw [ex_eq]
  simp only [body]
  rw [if_neg (by omega), if_pos ht, htl, ha.factor (d + 1) Z hd]
  rfl
theorem op_free {op : List UInt8} {n j : Nat} (h : op ∈ level n) (hn : n ≤ 2) (hj : j ≠ n) (hj2 : j ≤ 2) : op ∉ level j := by
  have e := levels_apart
  match n, j, hn, hj2, hj, h with
  | 0, 1, _, _, _, h => exact (e.1 op h).1
  | 0, 2, _, _, _, h => exact (e.1 op h).2
  | 1, 0, _, _, _, h => exact (e.2.1 op h).1
  | 1, 2, _, _, _, h => exact (e.2.1 op h).2
  | 2, 0, _, _, _, h => exact (e.2.2 op h).1
  | 2, 1, _, _, _, h => exact (e.2.2 op h).2
  | 0, 0, _, _, hj, _ => exact absurd rfl hj
  | 1, 1, _, _, hj, _ => exact absurd rfl hj
  | 2, 2, _, _, hj, _ => exact absurd rfl hj
theorem op_free2 {op : List UInt8} {n : Nat} (h : op ∈ level n) (hn : n ≤ 1) : ∀ j, 2 ≤ j → op ∉ level j := by
  intro j hj
  rw [level_two hj]; exact op_free h (by omega) (by omega) (by omega)
theorem reads_bin {op : List UInt8} {a b : Tr} (hw : Wf X (.bin op a b)) (ha : Reads X en a) (hb : Reads X en b) : Reads X en (.bin op a b) := by
  by_cases h0 : op ∈ level 0
  · have hr : rank (.bin op a b) = 0 := by simp only [rank]; rw [if_pos h0]
    refine Reads.make' hw rfl (fun h => by omega) (fun h => by omega) (fun h => by omega) (fun _ d Z h hf => ?_)
    have hd : d + DH a 1 ≤ 20 ∧ d + DH b 1 ≤ 20 := by simp only [dep] at h; rw [if_pos h0] at h; unfold DH; omega
    simp only [tkT]
    rw [if_pos h0, List.append_assoc, ex_eq]
    simp only [body, List.cons_append]
    rw [if_neg (by omega), ha.one d (tok1 5 op :: (heldT (rank b) 1 (tkT X b) ++ Z)) hd.1 (free_tok (op_free2 h0 (by omega)) (.inr rfl)), more_free (by rw [tok_text (.inr rfl)]; exact op_free h0 (by omega) (by omega) (by omega))]
    show ex en (.more 0 a) d (tok1 5 op :: (heldT (rank b) 1 (tkT X b) ++ Z)) = _
    rw [ex_eq]
    simp only [body]
    rw [tok_text (.inr rfl), if_pos h0]
    show R.next (ex en (.chain 1) d (heldT (rank b) 1 (tkT X b) ++ Z)) (fun t1 b => if 0 = 0 then some (R.ok t1 (Tr.bin op a b)) else ex en (.more 0 (Tr.bin op a b)) d t1) = _
    rw [hb.one d Z hd.2 (hf.less (by omega)), more_free (hf 1 (by omega))]
    rfl
  by_cases h1 : op ∈ level 1
  · have hr : rank (.bin op a b) = 1 := by simp only [rank]; rw [if_neg h0, if_pos h1]
    refine Reads.make' hw rfl (fun h => by omega) (fun h => by omega) (fun _ d Z h hf => ?_) (fun h => by omega)
    have hd : d + DH a 1 ≤ 20 ∧ d + DH b 2 ≤ 20 := by simp only [dep] at h; rw [if_neg h0, if_pos h1] at h; unfold DH; omega
    simp only [tkT]
    rw [if_neg h0, if_pos h1, List.append_assoc]
    simp only [List.cons_append]
    rw [ha.one d (tok1 5 op :: (heldT (rank b) 2 (tkT X b) ++ Z)) hd.1 (free_tok (op_free2 h1 (by omega)) (.inr rfl)), ex_eq]
    simp only [body]
    rw [tok_text (.inr rfl), if_pos h1]
    show R.next (ex en (.chain 2) d (heldT (rank b) 2 (tkT X b) ++ Z)) (fun t1 b => if 1 = 0 then some (R.ok t1 (Tr.bin op a b)) else ex en (.more 1 (Tr.bin op a b)) d t1) = _
    rw [hb.two d Z hd.2, more_free (hf 2 (by omega))]
    rfl
  by_cases h2 : op ∈ level 2
  · have hr : rank (.bin op a b) = 2 := by simp only [rank]; rw [if_neg h0, if_neg h1, if_pos h2]
    refine Reads.make' hw rfl (fun h => by omega) (fun _ d Z h => ?_) (fun h => by omega) (fun h => by omega)
    have hd : d + DH a 2 ≤ 20 ∧ d + DH b 3 ≤ 20 := by simp only [dep] at h; rw [if_neg h0, if_neg h1, if_pos h2] at h; unfold DH; omega
    simp only [tkT]
    rw [if_neg h0, if_neg h1, if_pos h2, List.append_assoc]
    simp only [List.cons_append]
    rw [ha.two d (tok1 5 op :: (heldT (rank b) 3 (tkT X b) ++ Z)) hd.1, ex_eq]
    simp only [body]
    rw [tok_text (.inr rfl), if_pos h2]
    show R.next (ex en (.chain 3) d (heldT (rank b) 3 (tkT X b) ++ Z)) (fun t1 b => if 2 = 0 then some (R.ok t1 (Tr.bin op a b)) else ex en (.more 2 (Tr.bin op a b)) d t1) = _
    rw [chain3, hb.factor d Z hd.2]
    rfl
  · have hr : rank (.bin op a b) = 3 := by simp only [rank]; rw [if_neg h0, if_neg h1, if_neg h2]
    have hop : op = [109, 105, 110] ∨ op = [109, 97, 120] := by
      have h := hw.1
      have e : ∀ op ∈ opsL, op ∈ level 0 ∨ op ∈ level 1 ∨ op ∈ ([[42]] : List (List UInt8)) ∨ op = [109, 105, 110] ∨ op = [109, 97, 120] := by decide
      rcases e op h with h | h | h | h
      · exact absurd h h0
      · exact absurd h h1
      · exact absurd h h2
      · exact h
    refine Reads.make' hw rfl (fun _ d Z h => ?_) (fun h => by omega) (fun h => by omega) (fun h => by omega)
    have hd : d + 1 + dep a ≤ 20 ∧ d + 1 + dep b ≤ 20 := by simp only [dep] at h; rw [if_neg h0, if_neg h1, if_neg h2] at h; omega
    have hts : tkT X (.bin op a b) ++ Z = tok1 1 op :: tok1 5 [40] :: (tkT X a ++ tok1 5 [44] :: (tkT X b ++ tok1 5 [41] :: Z)) := by
      simp only [tkT]
      rw [if_neg h0, if_neg h1, if_neg h2]
      simp
    rw [hts, ex_eq]
    simp only [body, List.tail_cons]
    rw [if_neg (by omega), tok_text (.inl rfl), if_neg (by rcases hop with rfl | rfl <;> decide), if_neg (by rcases hop with rfl | rfl <;> decide), if_pos hop,
      must_mk (.inr rfl), nx, ha.whole (d + 1) _ hd.1 (comma_free 0 _), nx, must_mk (.inr rfl), nx, hb.whole (d + 1) _ hd.2 (close_free 0 Z), nx, must_mk (.inr rfl), nx]
theorem reads_cond {a b c : Tr} (ha : Reads X en a) (hb : Reads X en b) (hc : Reads X en c) : Reads X en (.cond a b c) := by
  refine Reads.make (by simp [rank]) (fun d Z h hf => ?_) (fun h => by simp [rank] at h) (fun h => by simp [rank] at h) (fun h => by simp [rank] at h)
  have hd : d + 1 + dep a ≤ 20 ∧ d + 1 + dep b ≤ 20 ∧ d + 1 + dep c ≤ 20 := by simp only [dep] at h; omega
  have hts : tkT X (.cond a b c) ++ Z = tok1 1 [105, 102] :: (tkT X a ++ tok1 1 [116, 104, 101, 110] :: (tkT X b ++ tok1 1 [101, 108, 115, 101] :: (tkT X c ++ Z))) := by simp [tkT]
  rw [hts, ex_eq]
  simp only [body, List.tail_cons]
  rw [if_neg (by omega), tok_text (.inl rfl), if_pos rfl, ha.whole (d + 1) _ hd.1 (then_free 0 _), nx, must_mk (.inl rfl), nx, hb.whole (d + 1) _ hd.2.1 (else_free 0 _), nx, must_mk (.inl rfl), nx, hc.whole (d + 1) Z hd.2.2 hf, nx]
theorem reads_all : ∀ (t : Tr), Wf X t → Reads X en t
  | .whole n, h => reads_leaf (u := tok1 2 (X.w n)) h rfl rfl h (.inl rfl) rfl
  | .amount n, h => reads_leaf (u := tok1 3 (X.a n)) h rfl rfl h (.inr (.inl rfl)) rfl
  | .rate n, h => reads_leaf (u := tok1 4 (X.r n)) h rfl rfl h (.inr (.inr (.inl rfl))) rfl
  | .name s, h => reads_leaf (u := tok1 1 s) h rfl rfl (by unfold leaf; rw [if_pos (show (tok1 1 s).kind = 1 from rfl), if_neg (show (tok1 1 s).text ∉ takenL from h.1)]; rfl) (.inr (.inr (.inr ⟨rfl, h.1, h.2⟩))) rfl
  | .neg a, h => reads_neg h (reads_all a h)
  | .bin op a b, h => reads_bin h (reads_all a h.2.1) (reads_all b h.2.2)
  | .cond a b c, h => reads_cond (reads_all a h.1) (reads_all b h.2.1) (reads_all c h.2.2)
end PTree

namespace PTree
open PLex (Tok Lone kindOf)

def X0 : Tx := ⟨Go.Lib.decDigits, PMoney.text, PRate.text⟩
theorem numOf_snoc (l : List UInt8) (c : UInt8) : numOf (l ++ [c]) = 10 * numOf l + (c.toNat - 48) := by unfold numOf; rw [List.foldl_append]; rfl
theorem dig_nat {k : Nat} (h : k < 10) : (UInt8.ofNat (48 + k)).toNat - 48 = k := by
  have : (UInt8.ofNat (48 + k)).toNat = (48 + k) % 256 := rfl
  omega
theorem numOf_dec (n : Nat) : numOf (Go.Lib.decDigits n) = n := by
  induction n using Nat.strongRecOn with
  | ind n ih =>
    by_cases h : n < 10
    · rw [Go.Lib.decDigits_one h]
      show 10 * 0 + ((UInt8.ofNat (48 + n)).toNat - 48) = n
      rw [dig_nat h]; omega
    · rw [Go.Lib.decDigits, dif_neg h, numOf_snoc, ih (n / 10) (by omega), dig_nat (by omega)]
      omega
theorem kindOf_three {u : List UInt8} (h : kindOf u = 3) : ∃ n, PMoney.parse u = some n := by
  unfold kindOf at h
  by_cases h1 : (PMoney.parse u).isSome = true
  · exact Option.isSome_iff_exists.1 h1
  · rw [if_neg h1] at h
    (repeat' split at h) <;> omega
theorem kindOf_four {u : List UInt8} (h : kindOf u = 4) : ∃ n, PRate.parse u = some n := by
  unfold kindOf at h
  by_cases h1 : (PMoney.parse u).isSome = true
  · rw [if_pos h1] at h; omega
  · rw [if_neg h1] at h
    by_cases h2 : (PRate.parse u).isSome = true
    · exact Option.isSome_iff_exists.1 h2
    · rw [if_neg h2] at h
      (repeat' split at h) <;> omega
theorem leaf_two (s : List UInt8) : leaf (tok1 2 s) = some (.whole (numOf s)) := rfl
theorem leaf_three (s : List UInt8) : leaf (tok1 3 s) = some (.amount ((PMoney.parse s).getD 0)) := rfl
theorem leaf_four (s : List UInt8) : leaf (tok1 4 s) = some (.rate ((PRate.parse s).getD 0)) := rfl
theorem leaf_wf {t : Tok} {x : Tr} (hl : Lone kindOf t.kind t.text) (h : leaf t = some x) : Wf X0 x := by
  unfold leaf at h
  by_cases h1 : t.kind = 1
  · rw [if_pos h1] at h
    by_cases h2 : t.text ∈ takenL
    · rw [if_pos h2] at h; cases h
    · rw [if_neg h2] at h
      cases h
      refine ⟨h2, fun hm => ?_⟩
      obtain ⟨c, r, e, hs, _, _⟩ := hl
      simp only [List.mem_cons, List.not_mem_nil, or_false] at hm
      rw [h1] at hs
      rcases hm with hm | hm | hm
      · rw [hm] at e; cases e
      · rw [hm] at hs; revert hs; decide
      · rw [hm] at hs; revert hs; decide
  rw [if_neg h1] at h
  by_cases h2 : t.kind = 2
  · rw [if_pos h2] at h
    cases h
    show leaf (tok1 2 (Go.Lib.decDigits (numOf t.text))) = _
    rw [leaf_two, numOf_dec]
  rw [if_neg h2] at h
  by_cases h3 : t.kind = 3
  · rw [if_pos h3] at h
    cases h
    obtain ⟨n, hn⟩ := kindOf_three (PLex.Lone.run (by rw [← h3]; exact hl) (.inr (.inl rfl)))
    show leaf (tok1 3 (PMoney.text ((PMoney.parse t.text).getD 0))) = _
    rw [hn]
    show leaf (tok1 3 (PMoney.text n)) = some (.amount n)
    rw [(PMoney.parse_some hn).1, leaf_three, hn]; rfl
  rw [if_neg h3] at h
  by_cases h4 : t.kind = 4
  · rw [if_pos h4] at h
    cases h
    obtain ⟨n, hn⟩ := kindOf_four (PLex.Lone.run (by rw [← h4]; exact hl) (.inr (.inr rfl)))
    show leaf (tok1 4 (PRate.text ((PRate.parse t.text).getD 0))) = _
    rw [hn]
    show leaf (tok1 4 (PRate.text n)) = some (.rate n)
    rw [((PRate.parse_iff _ _).1 hn).2.2, leaf_four, hn]; rfl
  rw [if_neg h4] at h; cases h
def Lo (ts : List Tok) : Prop := ∀ y ∈ ts, Lone kindOf y.kind y.text
theorem Lo.tail {ts : List Tok} (h : Lo ts) : Lo ts.tail := fun y hy => h y (List.mem_of_mem_tail hy)
def Wb {α : Type} (P : α → Prop) (x : Option (R α)) : Prop := ∀ t a, x = some (.ok t a) → Lo t ∧ P a
theorem Wb.next {α β : Type} {P : α → Prop} {Q : β → Prop} {x : Option (R α)} {k : List Tok → α → Option (R β)} (h : Wb P x) (hk : ∀ t a, Lo t → P a → Wb Q (k t a)) : Wb Q (R.next x k) := by
  match x, h with
  | none, _ => exact fun _ _ e => by cases e
  | some (.bad e p), _ => exact fun _ _ e => by cases e
  | some (.ok t a), h => obtain ⟨h1, h2⟩ := h t a rfl; exact hk t a h1 h2
theorem Wb.ok {α : Type} {P : α → Prop} {t : List Tok} {a : α} (h : Lo t) (hp : P a) : Wb P (some (.ok t a)) := fun _ _ e => by cases e; exact ⟨h, hp⟩
theorem Wb.bad {α : Type} {P : α → Prop} {e p : Nat} : Wb P (some (.bad (α := α) e p)) := fun _ _ e => by cases e
theorem must_wb {en : Nat} {s : List UInt8} {ts : List Tok} (h : Lo ts) : Wb (fun _ => True) (must en s ts) := by
  unfold must
  by_cases hs : textOf ts = s
  · rw [if_pos hs]; exact .ok h.tail trivial
  · rw [if_neg hs]; exact .bad
def Md.wf : Md → Prop
  | .more _ a => Wf X0 a
  | _ => True
theorem run_wf (en : Nat) : ∀ (f : Nat) (m : Md) (d : Nat) (ts : List Tok), m.wf → Lo ts → Wb (Wf X0) (run en f m d ts) := by
  intro f
  induction f with
  | zero => intro m d ts _ _ t a e; cases e
  | succ f ih =>
    intro m d ts hm hw
    have W : ∀ d ts, Lo ts → Wb (Wf X0) (run en f .whole d ts) := fun d ts h => ih .whole d ts trivial h
    have F : ∀ d ts, Lo ts → Wb (Wf X0) (run en f .factor d ts) := fun d ts h => ih .factor d ts trivial h
    have C : ∀ n d ts, Lo ts → Wb (Wf X0) (run en f (.chain n) d ts) := fun n d ts h => ih (.chain n) d ts trivial h
    have M : ∀ n a d ts, Wf X0 a → Lo ts → Wb (Wf X0) (run en f (.more n a) d ts) := fun n a d ts h h2 => ih (.more n a) d ts h h2
    show Wb _ (body en (run en f) m d ts)
    cases m with
    | whole =>
      simp only [body]
      by_cases h1 : 20 < d
      · rw [if_pos h1]; exact .bad
      rw [if_neg h1]
      by_cases h2 : textOf ts = [105, 102]
      · rw [if_pos h2]
        exact (W _ _ hw.tail).next fun t1 a k1 p1 => (must_wb k1).next fun t2 _ k2 _ => (W _ _ k2).next fun t3 b k3 p3 => (must_wb k3).next fun t4 _ k4 _ => (W _ _ k4).next fun t5 c k5 p5 => .ok k5 ⟨p1, p3, p5⟩
      · rw [if_neg h2]; exact C 0 d ts hw
    | chain n =>
      simp only [body]
      by_cases h1 : 3 ≤ n
      · rw [if_pos h1]; exact F d ts hw
      · rw [if_neg h1]; exact (C (n + 1) d ts hw).next fun t1 a k1 p1 => M n a d t1 p1 k1
    | more n a =>
      simp only [body]
      by_cases h1 : textOf ts ∈ level n
      · rw [if_pos h1]
        refine (C (n + 1) d ts.tail hw.tail).next fun t1 b k1 p1 => ?_
        have hb : Wf X0 (.bin (textOf ts) a b) := ⟨level_ops h1, hm, p1⟩
        by_cases h2 : n = 0
        · rw [if_pos h2]; exact .ok k1 hb
        · rw [if_neg h2]; exact M n _ d t1 hb k1
      · rw [if_neg h1]; exact .ok hw hm
    | factor =>
      simp only [body]
      by_cases h1 : 20 < d
      · rw [if_pos h1]; exact .bad
      rw [if_neg h1]
      by_cases h2 : textOf ts = [45]
      · rw [if_pos h2]; exact (F _ _ hw.tail).next fun t1 a k1 p1 => .ok k1 p1
      rw [if_neg h2]
      by_cases h3 : textOf ts = [40]
      · rw [if_pos h3]; exact (W _ _ hw.tail).next fun t1 a k1 p1 => (must_wb k1).next fun t2 _ k2 _ => .ok k2 p1
      rw [if_neg h3]
      by_cases h4 : textOf ts = [109, 105, 110] ∨ textOf ts = [109, 97, 120]
      · rw [if_pos h4]
        have ho : textOf ts ∈ opsL := by rcases h4 with h4 | h4 <;> rw [h4] <;> decide
        exact (must_wb hw.tail).next fun t1 _ k1 _ => (W _ _ k1).next fun t2 a k2 p2 => (must_wb k2).next fun t3 _ k3 _ => (W _ _ k3).next fun t4 b k4 p4 => (must_wb k4).next fun t5 _ k5 _ => .ok k5 ⟨ho, p2, p4⟩
      rw [if_neg h4]
      cases ts with
      | nil => exact .bad
      | cons t r =>
        cases hl : leaf t with
        | none => simp only [hl]; exact .bad
        | some x => simp only [hl]; exact .ok hw.tail (leaf_wf (hw t (List.mem_cons_self ..)) hl)
def RWf (r : Rl) : Prop := r.kind ∈ kinds ∧ r.name ∉ takenL ∧ Lone kindOf 1 r.name ∧ Wf X0 r.tree ∧ 1 + dep r.tree ≤ 20
theorem rulesF_wf (en : Nat) : ∀ (f c : Nat) (ts : List Tok), Lo ts → Wb (fun rs => ∀ r ∈ rs, RWf r) (rulesF en f c ts)
  | f, c, [], h => by cases f <;> exact .ok h (fun r hr => by cases hr)
  | 0, c, t :: ts, _ => fun _ _ e => by cases e
  | f + 1, c, t :: ts, hw => by
    simp only [rulesF]
    by_cases h1 : textOf (t :: ts) ∉ kinds
    · rw [if_pos h1]; exact .bad
    rw [if_neg h1]
    by_cases h2 : 59 < c
    · rw [if_pos h2]; exact .bad
    rw [if_neg h2]
    have hw1 : Lo ts := hw.tail
    cases ts with
    | nil => exact .bad
    | cons m r =>
      simp only []
      by_cases h3 : m.kind ≠ 1 ∨ m.text ∈ takenL
      · rw [if_pos h3]; exact .bad
      rw [if_neg h3]
      have hk : m.kind = 1 := Classical.byContradiction fun h => h3 (.inl h)
      have hn : m.text ∉ takenL := fun h => h3 (.inr h)
      have hlm := hw1 m (List.mem_cons_self ..)
      rw [hk] at hlm
      have hw2 : Lo r := hw1.tail
      refine (must_wb hw2).next fun t1 _ k1 _ => ?_
      have hE : Wb (fun x => Wf X0 x ∧ 1 + dep x ≤ 20) (ex en .whole 1 t1) := fun t a e => by
        obtain ⟨g1, g2⟩ := run_wf en _ .whole 1 t1 trivial k1 t a e
        exact ⟨g1, g2, run_deep en _ .whole 1 t1 trivial t a e⟩
      exact hE.next fun t2 x k2 p2 => (must_wb k2).next fun t3 _ k3 _ => (rulesF_wf en f (c + 1) t3 k3).next fun t4 rs k4 p4 => .ok k4 (fun y hy => by
        rcases List.mem_cons.1 hy with rfl | hy
        · exact ⟨Classical.not_not.1 h1, hn, hlm, p2.1, p2.2⟩
        · exact p4 y hy)
theorem parse_wf {s : List UInt8} {t : List Tok} {rs : List Rl} (h : parse s = some (.ok t rs)) : ∀ r ∈ rs, RWf r := by
  have hl := PLex.all_lone (K := kindOf) s.length 0 s (Nat.le_refl _)
  unfold parse at h
  obtain ⟨r, hr⟩ : ∃ r, PLex.all kindOf 0 s = r := ⟨_, rfl⟩
  obtain ⟨q, ts⟩ := r
  rw [hr] at h hl
  cases q with
  | some q => cases h
  | none => exact (rulesF_wf s.length ts.length 0 ts hl t rs h).2
def rulesT : List Rl → List Tok
  | [] => []
  | r :: rs => tok1 1 r.kind :: tok1 1 r.name :: tok1 5 [61] :: (tkT X0 r.tree ++ tok1 5 [59] :: rulesT rs)
theorem rules_back (en : Nat) : ∀ (rs : List Rl) (c : Nat), (∀ r ∈ rs, RWf r) → c + rs.length ≤ 60 → rules en c (rulesT rs) = some (.ok [] rs)
  | [], c, _, _ => rules_nil en c
  | r :: rs, c, h, hc => by
    obtain ⟨h1, h2, h3, h4, h5⟩ := h r (List.mem_cons_self ..)
    simp only [List.length_cons] at hc
    simp only [rulesT]
    rw [rules_cons]
    have ht : textOf (tok1 1 r.kind :: tok1 1 r.name :: tok1 5 [61] :: (tkT X0 r.tree ++ tok1 5 [59] :: rulesT rs)) = r.kind := tok_text (.inl rfl)
    rw [ht, if_neg (fun k => k h1), if_neg (by omega)]
    simp only []
    rw [if_neg (show ¬ ((tok1 1 r.name).kind ≠ 1 ∨ (tok1 1 r.name).text ∈ takenL) from fun k => k.elim (fun k => k rfl) h2), must_mk (.inr rfl), nx,
      (reads_all r.tree h4).whole 1 _ h5 (semi_free 0 _), nx, must_mk (.inr rfl), nx, rules_back en rs (c + 1) (fun x hx => h x (List.mem_cons_of_mem _ hx)) (by omega), nx]
    rfl
end PTree

namespace PTree
open PLex (Tok Lone kindOf)

variable {φ : Nat → List UInt8 → Nat}
def wt (φ : Nat → List UInt8 → Nat) (ts : List Tok) : Nat := (ts.map fun t => φ t.kind t.text).sum
theorem wt_nil : wt φ [] = 0 := rfl
theorem wt_cons (t : Tok) (ts : List Tok) : wt φ (t :: ts) = φ t.kind t.text + wt φ ts := by simp [wt]
theorem wt_app (a b : List Tok) : wt φ (a ++ b) = wt φ a + wt φ b := by simp [wt]
def TH (t : Tr) (n : Nat) : List Tok := heldT (rank t) n (tkT X0 t)
theorem TH_mono {t : Tr} {m n : Nat} (h : m ≤ n) : wt φ (TH t m) ≤ wt φ (TH t n) := by
  unfold TH heldT
  by_cases h1 : rank t < m
  · rw [if_pos h1, if_pos (by omega)]; exact Nat.le_refl _
  · rw [if_neg h1]
    by_cases h2 : rank t < n
    · rw [if_pos h2]; simp only [wt_cons, wt_app]; omega
    · rw [if_neg h2]; exact Nat.le_refl _
theorem TH_zero (t : Tr) : TH t 0 = tkT X0 t := by unfold TH heldT; rw [if_neg (by omega)]
theorem TH_own {t : Tr} {n : Nat} (h : n ≤ rank t) : TH t n = tkT X0 t := by unfold TH heldT; rw [if_neg (by omega)]
theorem TH_paren (t : Tr) (n : Nat) : wt φ (TH t n) ≤ φ 5 [40] + wt φ (tkT X0 t) + φ 5 [41] := by
  unfold TH heldT
  by_cases h : rank t < n
  · rw [if_pos h]; simp only [wt_cons, wt_app, wt_nil, tok1]; omega
  · rw [if_neg h]; omega
def Even (φ : Nat → List UInt8 → Nat) : Prop := ∀ s, φ 1 s = φ 5 s
def WtA {α : Type} (P : α → List Tok → Prop) (x : Option (R α)) : Prop := ∀ ts a, x = some (.ok ts a) → P a ts
theorem WtA.next {α β : Type} {x : Option (R α)} {k : List Tok → α → Option (R β)} {P : α → List Tok → Prop} {Q : β → List Tok → Prop} (h : WtA P x) (hk : ∀ ts a, P a ts → WtA Q (k ts a)) : WtA Q (R.next x k) := by
  match x, h with
  | none, _ => exact fun _ _ e => by cases e
  | some (.bad e p), _ => exact fun _ _ e => by cases e
  | some (.ok t a), h => exact hk t a (h t a rfl)
theorem WtA.ok {α : Type} {P : α → List Tok → Prop} {ts : List Tok} {a : α} (h : P a ts) : WtA P (some (R.ok ts a)) := fun ts' a' e => by cases e; exact h
theorem WtA.bad {α : Type} {P : α → List Tok → Prop} {e p : Nat} : WtA P (some (R.bad (α := α) e p)) := fun ts a k => by cases k
theorem wt_head (he : Even φ) {ts : List Tok} {s : List UInt8} (h : textOf ts = s) (hs : s ≠ []) : wt φ ts = φ 5 s + wt φ ts.tail := by
  cases ts with
  | nil => exact absurd h.symm hs
  | cons t r =>
    have h : (if t.kind = 1 ∨ t.kind = 5 then t.text else []) = s := h
    by_cases hk : t.kind = 1 ∨ t.kind = 5
    · rw [if_pos hk] at h
      rw [wt_cons, h]
      rcases hk with hk | hk <;> rw [hk]
      · rw [he]; rfl
      · rfl
    · rw [if_neg hk] at h; exact absurd h.symm hs
theorem dec_num' : ∀ (n : Nat) (u : List UInt8), u.length = n → u ≠ [] → (∀ x ∈ u, 48 ≤ x.toNat ∧ x.toNat ≤ 57) → (u.length = 1 ∨ u.head? ≠ some 48) → Go.Lib.decDigits (numOf u) = u := by
  intro n
  induction n with
  | zero => intro u hu h0; exact absurd (List.eq_nil_of_length_eq_zero hu) h0
  | succ n ih =>
    intro u hu h0 hd hh
    rcases List.eq_nil_or_concat u with h | ⟨l, c, h⟩
    · exact absurd h h0
    rw [List.concat_eq_append] at h
    subst h
    have hc := hd c (by simp)
    have hcu : UInt8.ofNat (48 + (c.toNat - 48)) = c := by
      rw [show 48 + (c.toNat - 48) = c.toNat by omega]; simp
    by_cases hl : l = []
    · subst hl
      have h1 : numOf ([] ++ [c]) = c.toNat - 48 := by rw [numOf_snoc]; show 10 * 0 + (c.toNat - 48) = _; omega
      rw [h1, Go.Lib.decDigits_one (by omega), hcu]; rfl
    · have hll : l.length = n := by simpa using hu
      have hne : 1 ≤ l.length := by cases l with | nil => exact absurd rfl hl | cons _ _ => simp
      have hhead : l.head? ≠ some 48 := by
        rcases hh with hh | hh
        · rw [hu] at hh; omega
        · cases l with
          | nil => exact absurd rfl hl
          | cons x r => simpa using hh
      have e := ih l hll hl (fun x hx => hd x (by simp [hx])) (.inr hhead)
      have h1 : 1 ≤ numOf l := by
        rcases Nat.eq_zero_or_pos (numOf l) with h | h
        · rw [h, Go.Lib.decDigits_one (by omega)] at e
          rw [← e] at hhead
          exact absurd rfl hhead
        · exact h
      rw [numOf_snoc, Go.Lib.decDigits, dif_neg (by omega), show (10 * numOf l + (c.toNat - 48)) / 10 = numOf l by omega, show (10 * numOf l + (c.toNat - 48)) % 10 = c.toNat - 48 by omega, e, hcu]
theorem dec_num {u : List UInt8} (h : PLex.whole u = true) : Go.Lib.decDigits (numOf u) = u := by
  obtain ⟨hd, _⟩ := PLex.whole_digs h
  unfold PLex.whole at h
  simp only [Bool.and_eq_true, Bool.or_eq_true, decide_eq_true_eq, beq_iff_eq, bne_iff_ne] at h
  obtain ⟨_, ⟨h1, _⟩, h2⟩ := h
  exact dec_num' u.length u rfl (by rintro rfl; simp at h1) hd h2
theorem leaf_tok {t : Tok} {x : Tr} (hl : Lone kindOf t.kind t.text) (h : leaf t = some x) : tkT X0 x = [tok1 t.kind t.text] := by
  unfold leaf at h
  by_cases h1 : t.kind = 1
  · rw [if_pos h1] at h
    by_cases h2 : t.text ∈ takenL
    · rw [if_pos h2] at h; cases h
    · rw [if_neg h2] at h; cases h; rw [h1]; rfl
  rw [if_neg h1] at h
  by_cases h2 : t.kind = 2
  · rw [if_pos h2] at h
    cases h
    show [tok1 2 (Go.Lib.decDigits (numOf t.text))] = _
    rw [dec_num (PLex.Lone.whole (by rw [← h2]; exact hl)), h2]
  rw [if_neg h2] at h
  by_cases h3 : t.kind = 3
  · rw [if_pos h3] at h
    cases h
    obtain ⟨n, hn⟩ := PLex.Lone.amount (u := t.text) (by rw [← h3]; exact hl)
    show [tok1 3 (PMoney.text ((PMoney.parse t.text).getD 0))] = _
    rw [hn]
    show [tok1 3 (PMoney.text n)] = _
    rw [(PMoney.parse_some hn).1, h3]
  rw [if_neg h3] at h
  by_cases h4 : t.kind = 4
  · rw [if_pos h4] at h
    cases h
    obtain ⟨n, hn⟩ := PLex.Lone.percent (u := t.text) (by rw [← h4]; exact hl)
    show [tok1 4 (PRate.text ((PRate.parse t.text).getD 0))] = _
    rw [hn]
    show [tok1 4 (PRate.text n)] = _
    rw [((PRate.parse_iff _ _).1 hn).2.2, h4]
  rw [if_neg h4] at h; cases h
theorem lo_app {a b : List Tok} : Lo (a ++ b) ↔ Lo a ∧ Lo b := by
  unfold Lo
  constructor
  · exact fun h => ⟨fun y hy => h y (List.mem_append_left _ hy), fun y hy => h y (List.mem_append_right _ hy)⟩
  · rintro ⟨h1, h2⟩ y hy
    rcases List.mem_append.1 hy with h | h
    · exact h1 y h
    · exact h2 y h
theorem lo_cons {t : Tok} {b : List Tok} : Lo (t :: b) ↔ Lone kindOf t.kind t.text ∧ Lo b := by
  unfold Lo
  constructor
  · exact fun h => ⟨h t (List.mem_cons_self ..), fun y hy => h y (List.mem_cons_of_mem _ hy)⟩
  · rintro ⟨h1, h2⟩ y hy
    rcases List.mem_cons.1 hy with rfl | h
    · exact h1
    · exact h2 y h
theorem lo_nil : Lo [] := fun _ h => by cases h
theorem lone_signs : ∀ s ∈ ([[60], [60, 61], [61], [60, 62], [62], [62, 61], [43], [45], [42], [40], [41], [44], [59]] : List (List UInt8)), Lone kindOf 5 s := by
  intro s hs
  simp only [List.mem_cons, List.not_mem_nil, or_false] at hs
  rcases hs with rfl | rfl | rfl | rfl | rfl | rfl | rfl | rfl | rfl | rfl | rfl | rfl | rfl <;> exact ⟨_, _, rfl, rfl, by decide, by decide⟩
theorem lone_words : ∀ s ∈ ([[105, 102], [116, 104, 101, 110], [101, 108, 115, 101], [109, 105, 110], [109, 97, 120], [101, 97, 114, 110], [112, 114, 101, 116, 97, 120], [112, 111, 115, 116], [108, 101, 116]] : List (List UInt8)), Lone kindOf 1 s := by
  intro s hs
  simp only [List.mem_cons, List.not_mem_nil, or_false] at hs
  rcases hs with rfl | rfl | rfl | rfl | rfl | rfl | rfl | rfl | rfl <;> exact ⟨_, _, rfl, rfl, by decide, by decide⟩
theorem lo_held {r n : Nat} {l : List Tok} (h : Lo l) : Lo (heldT r n l) := by
  unfold heldT
  by_cases h1 : r < n
  · rw [if_pos h1]
    exact lo_cons.2 ⟨lone_signs _ (by decide), lo_app.2 ⟨h, lo_cons.2 ⟨lone_signs _ (by decide), lo_nil⟩⟩⟩
  · rw [if_neg h1]; exact h
theorem level_lone {op : List UInt8} {n : Nat} (h : op ∈ level n) : Lone kindOf 5 op := by
  refine lone_signs op ?_
  match n, h with
  | 0, h => revert h; exact fun h => (by decide : ∀ x ∈ level 0, x ∈ ([[60], [60, 61], [61], [60, 62], [62], [62, 61], [43], [45], [42], [40], [41], [44], [59]] : List (List UInt8))) op h
  | 1, h => exact (by decide : ∀ x ∈ level 1, x ∈ ([[60], [60, 61], [61], [60, 62], [62], [62, 61], [43], [45], [42], [40], [41], [44], [59]] : List (List UInt8))) op h
  | n + 2, h => exact (by decide : ∀ x ∈ ([[42]] : List (List UInt8)), x ∈ ([[60], [60, 61], [61], [60, 62], [62], [62, 61], [43], [45], [42], [40], [41], [44], [59]] : List (List UInt8))) op h
theorem tk_level {op : List UInt8} {a b : Tr} {n : Nat} (hn : n ≤ 2) (h : op ∈ level n) : tkT X0 (.bin op a b) = TH a (max n 1) ++ tok1 5 op :: TH b (n + 1) ∧ rank (.bin op a b) = n := by
  have h3 : n = 0 ∨ n = 1 ∨ n = 2 := by omega
  rcases h3 with rfl | rfl | rfl
  · constructor
    · simp only [tkT]; rw [if_pos h]; rfl
    · simp only [rank]; rw [if_pos h]
  · have h0 := (levels_apart.2.1 _ h).1
    constructor
    · simp only [tkT]; rw [if_neg h0, if_pos h]; rfl
    · simp only [rank]; rw [if_neg h0, if_pos h]
  · have h0 := levels_apart.2.2 _ h
    constructor
    · simp only [tkT]; rw [if_neg h0.1, if_neg h0.2, if_pos h]; rfl
    · simp only [rank]; rw [if_neg h0.1, if_neg h0.2, if_pos h]
def WtM (φ : Nat → List UInt8 → Nat) (ts : List Tok) : Md → Tr → List Tok → Prop
  | .whole, t, r => wt φ (tkT X0 t) + wt φ r ≤ wt φ ts
  | .chain n, t, r => wt φ (TH t (min n 3)) + wt φ r ≤ wt φ ts
  | .more n a, t, r => wt φ (TH t (min n 3)) + wt φ r ≤ wt φ (TH a (max n 1)) + wt φ ts
  | .factor, t, r => wt φ (TH t 3) + wt φ r ≤ wt φ ts
def WtP (φ : Nat → List UInt8 → Nat) (ts : List Tok) (m : Md) (t : Tr) (r : List Tok) : Prop := WtM φ ts m t r ∧ Lo r ∧ Lo (tkT X0 t)
def Md.lo : Md → Prop
  | .more n a => n ≤ 2 ∧ Lo (tkT X0 a)
  | _ => True
theorem must_wl (he : Even φ) {en : Nat} {s : List UInt8} {ts : List Tok} (hs : s ≠ []) (hl : Lo ts) : WtA (fun _ t => φ 5 s + wt φ t ≤ wt φ ts ∧ Lo t) (must en s ts) := by
  unfold must
  by_cases h : textOf ts = s
  · rw [if_pos h]; exact .ok ⟨by rw [wt_head he h hs]; exact Nat.le_refl _, hl.tail⟩
  · rw [if_neg h]; exact .bad
theorem run_wt (he : Even φ) (en : Nat) : ∀ (f : Nat) (m : Md) (d : Nat) (ts : List Tok), m.lo → Lo ts → WtA (WtP φ ts m) (run en f m d ts) := by
  intro f
  induction f with
  | zero => intro m d ts _ _ t a e; cases e
  | succ f ih =>
    intro m d ts hm hl
    have W : ∀ d ts, Lo ts → WtA (WtP φ ts .whole) (run en f .whole d ts) := fun d ts h => ih .whole d ts trivial h
    have F : ∀ d ts, Lo ts → WtA (WtP φ ts .factor) (run en f .factor d ts) := fun d ts h => ih .factor d ts trivial h
    have C : ∀ n d ts, Lo ts → WtA (WtP φ ts (.chain n)) (run en f (.chain n) d ts) := fun n d ts h => ih (.chain n) d ts trivial h
    show WtA _ (body en (run en f) m d ts)
    cases m with
    | whole =>
      simp only [body]
      by_cases h1 : 20 < d
      · rw [if_pos h1]; exact .bad
      rw [if_neg h1]
      by_cases h2 : textOf ts = [105, 102]
      · rw [if_pos h2]
        have w0 := wt_head he h2 (by decide)
        refine (W _ _ hl.tail).next fun t1 a ⟨k1, l1, q1⟩ => (must_wl he (by decide) l1).next fun t2 _ ⟨k2, l2⟩ => (W _ _ l2).next fun t3 b ⟨k3, l3, q3⟩ => (must_wl he (by decide) l3).next fun t4 _ ⟨k4, l4⟩ => (W _ _ l4).next fun t5 c ⟨k5, l5, q5⟩ => .ok ⟨?_, l5, ?_⟩
        · show wt φ (tkT X0 (.cond a b c)) + _ ≤ _
          simp only [tkT, wt_cons, wt_app, tok1]
          have k1 : wt φ (tkT X0 a) + wt φ t1 ≤ wt φ ts.tail := k1
          have k3 : wt φ (tkT X0 b) + wt φ t3 ≤ wt φ t2 := k3
          have k5 : wt φ (tkT X0 c) + wt φ t5 ≤ wt φ t4 := k5
          rw [he, he, he]
          omega
        · simp only [tkT]
          exact lo_cons.2 ⟨lone_words _ (by decide), lo_app.2 ⟨q1, lo_cons.2 ⟨lone_words _ (by decide), lo_app.2 ⟨q3, lo_cons.2 ⟨lone_words _ (by decide), q5⟩⟩⟩⟩⟩
      · rw [if_neg h2]
        intro t1 a e
        obtain ⟨k, l, q⟩ := C 0 d ts hl t1 a e
        have k : wt φ (TH a 0) + wt φ t1 ≤ wt φ ts := k
        rw [TH_zero] at k
        exact ⟨k, l, q⟩
    | chain n =>
      simp only [body]
      by_cases h1 : 3 ≤ n
      · rw [if_pos h1]
        intro t1 a e
        obtain ⟨k, l, q⟩ := F d ts hl t1 a e
        refine ⟨?_, l, q⟩
        show wt φ (TH a (min n 3)) + _ ≤ _
        rw [show min n 3 = 3 by omega]; exact k
      · rw [if_neg h1]
        refine (C (n + 1) d ts hl).next fun t1 a ⟨k1, l1, q1⟩ => ?_
        intro t2 b e
        obtain ⟨k2, l2, q2⟩ := ih (.more n a) d t1 ⟨by omega, q1⟩ l1 t2 b e
        refine ⟨?_, l2, q2⟩
        have k1 : wt φ (TH a (min (n + 1) 3)) + wt φ t1 ≤ wt φ ts := k1
        have k2 : wt φ (TH b (min n 3)) + wt φ t2 ≤ wt φ (TH a (max n 1)) + wt φ t1 := k2
        have k3 := TH_mono (φ := φ) (t := a) (show max n 1 ≤ min (n + 1) 3 by omega)
        show wt φ (TH b (min n 3)) + wt φ t2 ≤ wt φ ts
        omega
    | more n a =>
      obtain ⟨hn, ha⟩ := hm
      simp only [body]
      by_cases h1 : textOf ts ∈ level n
      · rw [if_pos h1]
        obtain ⟨op, hop⟩ : ∃ op, textOf ts = op := ⟨_, rfl⟩
        rw [hop] at h1 ⊢
        have hne : op ≠ [] := by
          rintro rfl
          obtain ⟨c, r, e, _⟩ := level_lone h1
          cases e
        have w0 := wt_head he hop hne
        refine (C (n + 1) d ts.tail hl.tail).next fun t1 b ⟨k1, l1, q1⟩ => ?_
        have k1 : wt φ (TH b (min (n + 1) 3)) + wt φ t1 ≤ wt φ ts.tail := k1
        rw [show min (n + 1) 3 = n + 1 by omega] at k1
        obtain ⟨e1, e2⟩ := tk_level (a := a) (b := b) hn h1
        have q3 : Lo (tkT X0 (.bin op a b)) := by
          rw [e1]
          exact lo_app.2 ⟨lo_held ha, lo_cons.2 ⟨level_lone h1, lo_held q1⟩⟩
        have hw : wt φ (tkT X0 (.bin op a b)) = wt φ (TH a (max n 1)) + (φ 5 op + wt φ (TH b (n + 1))) := by
          rw [e1, wt_app, wt_cons]; rfl
        by_cases h2 : n = 0
        · subst h2
          rw [if_pos rfl]
          refine .ok ⟨?_, l1, q3⟩
          show wt φ (TH (.bin op a b) (min 0 3)) + _ ≤ wt φ (TH a (max 0 1)) + _
          rw [show min 0 3 = 0 from rfl, TH_zero, hw]
          omega
        · rw [if_neg h2]
          intro t2 x e
          obtain ⟨k2, l2, q2⟩ := ih (.more n _) d t1 ⟨hn, q3⟩ l1 t2 x e
          refine ⟨?_, l2, q2⟩
          have k2 : wt φ (TH x (min n 3)) + wt φ t2 ≤ wt φ (TH (.bin op a b) (max n 1)) + wt φ t1 := k2
          rw [TH_own (t := .bin op a b) (n := max n 1) (by rw [e2]; omega), hw] at k2
          show wt φ (TH x (min n 3)) + wt φ t2 ≤ wt φ (TH a (max n 1)) + wt φ ts
          omega
      · rw [if_neg h1]
        refine .ok ⟨?_, hl, ha⟩
        show wt φ (TH a (min n 3)) + wt φ ts ≤ wt φ (TH a (max n 1)) + wt φ ts
        have := TH_mono (φ := φ) (t := a) (show min n 3 ≤ max n 1 by omega)
        omega
    | factor =>
      simp only [body]
      by_cases h1 : 20 < d
      · rw [if_pos h1]; exact .bad
      rw [if_neg h1]
      by_cases h2 : textOf ts = [45]
      · rw [if_pos h2]
        have w0 := wt_head he h2 (by decide)
        refine (F _ _ hl.tail).next fun t1 a ⟨k1, l1, q1⟩ => .ok ⟨?_, l1, ?_⟩
        · have k1 : wt φ (TH a 3) + wt φ t1 ≤ wt φ ts.tail := k1
          show wt φ (TH (.neg a) 3) + _ ≤ _
          rw [TH_own (by simp [rank])]
          show wt φ (tok1 5 [45] :: TH a 3) + _ ≤ _
          rw [wt_cons]
          show φ 5 [45] + _ + _ ≤ _
          omega
        · exact lo_cons.2 ⟨lone_signs _ (by decide), lo_held q1⟩
      rw [if_neg h2]
      by_cases h3 : textOf ts = [40]
      · rw [if_pos h3]
        have w0 := wt_head he h3 (by decide)
        refine (W _ _ hl.tail).next fun t1 a ⟨k1, l1, q1⟩ => (must_wl he (by decide) l1).next fun t2 _ ⟨k2, l2⟩ => .ok ⟨?_, l2, q1⟩
        have k1 : wt φ (tkT X0 a) + wt φ t1 ≤ wt φ ts.tail := k1
        have := TH_paren (φ := φ) a 3
        show wt φ (TH a 3) + wt φ t2 ≤ wt φ ts
        omega
      rw [if_neg h3]
      by_cases h4 : textOf ts = [109, 105, 110] ∨ textOf ts = [109, 97, 120]
      · rw [if_pos h4]
        obtain ⟨op, hop⟩ : ∃ op, textOf ts = op := ⟨_, rfl⟩
        rw [hop] at h4 ⊢
        have ho : op ∉ level 0 ∧ op ∉ level 1 ∧ op ∉ level 2 := by
          rcases h4 with h4 | h4 <;> rw [h4]
          · exact ⟨by decide, by decide, by show _ ∉ ([[42]] : List (List UInt8)); decide⟩
          · exact ⟨by decide, by decide, by show _ ∉ ([[42]] : List (List UInt8)); decide⟩
        have hlo : Lone kindOf 1 op := by rcases h4 with h4 | h4 <;> rw [h4] <;> exact lone_words _ (by decide)
        have w0 := wt_head he hop (by rcases h4 with h4 | h4 <;> rw [h4] <;> decide)
        refine (must_wl he (by decide) hl.tail).next fun t1 _ ⟨k1, l1⟩ => (W _ _ l1).next fun t2 a ⟨k2, l2, q2⟩ => (must_wl he (by decide) l2).next fun t3 _ ⟨k3, l3⟩ => (W _ _ l3).next fun t4 b ⟨k4, l4, q4⟩ => (must_wl he (by decide) l4).next fun t5 _ ⟨k5, l5⟩ => .ok ⟨?_, l5, ?_⟩
        · have hr : rank (.bin op a b) = 3 := by simp only [rank]; rw [if_neg ho.1, if_neg ho.2.1, if_neg ho.2.2]
          have k2 : wt φ (tkT X0 a) + wt φ t2 ≤ wt φ t1 := k2
          have k4 : wt φ (tkT X0 b) + wt φ t4 ≤ wt φ t3 := k4
          show wt φ (TH (.bin op a b) 3) + wt φ t5 ≤ wt φ ts
          rw [TH_own (by rw [hr]; decide)]
          simp only [tkT]
          rw [if_neg ho.1, if_neg ho.2.1, if_neg ho.2.2]
          simp only [wt_cons, wt_app, wt_nil, tok1]
          rw [he]
          omega
        · simp only [tkT]
          rw [if_neg ho.1, if_neg ho.2.1, if_neg ho.2.2]
          exact lo_cons.2 ⟨hlo, lo_cons.2 ⟨lone_signs _ (by decide), lo_app.2 ⟨q2, lo_cons.2 ⟨lone_signs _ (by decide), lo_app.2 ⟨q4, lo_cons.2 ⟨lone_signs _ (by decide), lo_nil⟩⟩⟩⟩⟩⟩
      rw [if_neg h4]
      cases ts with
      | nil => exact .bad
      | cons t r =>
        cases hf : leaf t with
        | none => simp only [hf]; exact .bad
        | some x =>
          simp only [hf]
          have ht := leaf_tok (hl t (List.mem_cons_self ..)) hf
          have hx : rank x = 3 := by
            unfold leaf at hf
            (repeat' split at hf) <;> first | (cases hf; rfl) | cases hf
          refine .ok ⟨?_, hl.tail, ?_⟩
          · show wt φ (TH x 3) + wt φ r ≤ wt φ (t :: r)
            rw [TH_own (by rw [hx]; decide), ht, wt_cons, wt_cons, wt_nil]
            exact Nat.le_refl _
          · rw [ht]
            exact lo_cons.2 ⟨hl t (List.mem_cons_self ..), lo_nil⟩
theorem kind_lone {s : List UInt8} (h : s ∈ kinds) : Lone kindOf 1 s := lone_words s ((by decide : ∀ x ∈ kinds, x ∈ ([[105, 102], [116, 104, 101, 110], [101, 108, 115, 101], [109, 105, 110], [109, 97, 120], [101, 97, 114, 110], [112, 114, 101, 116, 97, 120], [112, 111, 115, 116], [108, 101, 116]] : List (List UInt8))) s h)
theorem lone_eq : Lone kindOf 5 [61] := ⟨_, _, rfl, rfl, by decide, by decide⟩
theorem rulesF_wt (he : Even φ) (en : Nat) : ∀ (f c : Nat) (ts : List Tok), Lo ts → WtA (fun rs r => (wt φ (rulesT rs) + wt φ r ≤ wt φ ts ∧ Lo r) ∧ Lo (rulesT rs) ∧ c + rs.length ≤ max c 60) (rulesF en f c ts)
  | f, c, [], h => by cases f <;> exact .ok ⟨⟨Nat.le_refl _, h⟩, lo_nil, by simp only [List.length_nil]; omega⟩
  | 0, c, t :: ts, _ => fun _ _ e => by cases e
  | f + 1, c, t :: ts, hl => by
    simp only [rulesF]
    by_cases h1 : textOf (t :: ts) ∉ kinds
    · rw [if_pos h1]; exact .bad
    rw [if_neg h1]
    by_cases h2 : 59 < c
    · rw [if_pos h2]; exact .bad
    rw [if_neg h2]
    have hl1 : Lo ts := hl.tail
    cases ts with
    | nil => exact .bad
    | cons m r =>
      simp only []
      by_cases h3 : m.kind ≠ 1 ∨ m.text ∈ takenL
      · rw [if_pos h3]; exact .bad
      rw [if_neg h3]
      have hk : m.kind = 1 := Classical.byContradiction fun h => h3 (.inl h)
      have hlm := hl1 m (List.mem_cons_self ..)
      rw [hk] at hlm
      have hl2 : Lo r := hl1.tail
      have hkd : textOf (t :: m :: r) ∈ kinds := Classical.not_not.1 h1
      obtain ⟨kd, hkk⟩ : ∃ kd, textOf (t :: m :: r) = kd := ⟨_, rfl⟩
      rw [hkk] at hkd ⊢
      have w0 := wt_head he hkk (by rintro rfl; revert hkd; decide)
      have w1 : wt φ (t :: m :: r).tail = φ 1 m.text + wt φ r := by show wt φ (m :: r) = _; rw [wt_cons, hk]
      refine (must_wl he (by decide) hl2).next fun t1 _ ⟨k1, l1⟩ => ?_
      have hE : WtA (WtP φ t1 .whole) (ex en .whole 1 t1) := fun t a e => run_wt he en _ .whole 1 t1 trivial l1 t a e
      refine hE.next fun t2 x ⟨k2, l2, q2⟩ => (must_wl he (by decide) l2).next fun t3 _ ⟨k3, l3⟩ => (rulesF_wt he en f (c + 1) t3 l3).next fun t4 rs ⟨⟨k4, l4⟩, q4, c4⟩ => .ok ⟨⟨?_, l4⟩, ?_, ?_⟩
      · have k2 : wt φ (tkT X0 x) + wt φ t2 ≤ wt φ t1 := k2
        simp only [rulesT, wt_cons, wt_app]
        show φ 1 kd + (φ 1 m.text + (φ 5 [61] + (wt φ (tkT X0 x) + (φ 5 [59] + wt φ (rulesT rs))))) + wt φ t4 ≤ wt φ (t :: m :: r)
        rw [he kd]
        omega
      · simp only [rulesT]
        exact lo_cons.2 ⟨kind_lone hkd, lo_cons.2 ⟨hlm, lo_cons.2 ⟨lone_eq, lo_app.2 ⟨q2, lo_cons.2 ⟨lone_signs _ (by decide), q4⟩⟩⟩⟩⟩
      · simp only [List.length_cons]; omega
theorem parse_wt (he : Even φ) {s : List UInt8} {t : List Tok} {rs : List Rl} (h : parse s = some (.ok t rs)) : (PLex.all kindOf 0 s).1 = none ∧ wt φ (rulesT rs) ≤ wt φ (PLex.all kindOf 0 s).2 ∧ Lo (rulesT rs) ∧ rs.length ≤ 60 := by
  have hl := PLex.all_lone (K := kindOf) s.length 0 s (Nat.le_refl _)
  unfold parse at h
  obtain ⟨r, hr⟩ : ∃ r, PLex.all kindOf 0 s = r := ⟨_, rfl⟩
  obtain ⟨q, ts⟩ := r
  rw [hr] at h hl ⊢
  cases q with
  | some q => cases h
  | none =>
    obtain ⟨⟨h1, _⟩, h2, h3⟩ := rulesF_wt (φ := φ) he s.length ts.length 0 ts hl t rs h
    exact ⟨rfl, by show _ ≤ wt φ ts; omega, h2, by omega⟩
end PTree

set_option linter.unusedVariables false
namespace PTree
open PLex (Tok Lone kindOf Same Sep)

def heldB (r least : Nat) (l : List UInt8) : List UInt8 := if r < least then 40 :: (l ++ [41]) else l
def txB : Tr → List UInt8
  | .whole n => Go.Lib.decDigits n
  | .amount n => PMoney.text n
  | .rate n => PRate.text n
  | .name s => s
  | .neg a => 45 :: heldB (rank a) 3 (txB a)
  | .bin op a b =>
    if op ∈ level 0 then heldB (rank a) 1 (txB a) ++ 32 :: (op ++ 32 :: heldB (rank b) 1 (txB b))
    else if op ∈ level 1 then heldB (rank a) 1 (txB a) ++ 32 :: (op ++ 32 :: heldB (rank b) 2 (txB b))
    else if op ∈ level 2 then heldB (rank a) 2 (txB a) ++ 32 :: (op ++ 32 :: heldB (rank b) 3 (txB b))
    else op ++ 40 :: (txB a ++ 44 :: 32 :: (txB b ++ [41]))
  | .cond a b c => [105, 102] ++ 32 :: (txB a ++ 32 :: ([116, 104, 101, 110] ++ 32 :: (txB b ++ 32 :: ([101, 108, 115, 101] ++ 32 :: txB c))))
def ruleB (r : Rl) : List UInt8 := r.kind ++ 32 :: (r.name ++ 32 :: ([61] ++ 32 :: (txB r.tree ++ [59])))
def textB : List Rl → List UInt8
  | [] => []
  | r :: rs => ruleB r ++ 10 :: textB rs

def Lx (l : List UInt8) (ts : List Tok) : Prop := ∀ p b t, Sep b → ∃ us, Same us ts ∧ PLex.all kindOf p (l ++ b :: t) = ((PLex.all kindOf (p + l.length) (b :: t)).1, us ++ (PLex.all kindOf (p + l.length) (b :: t)).2)
theorem same_app {a b c d : List Tok} (h : Same a b) (h2 : Same c d) : Same (a ++ c) (b ++ d) := by
  unfold PLex.Same at *
  rw [List.map_append, List.map_append, h, h2]
theorem same_one (k p : Nat) (u : List UInt8) : Same [⟨k, u, p⟩] [tok1 k u] := rfl
theorem lx_nil : Lx [] [] := fun p b t _ => ⟨[], rfl, rfl⟩
theorem lx_word {k : Nat} {u : List UInt8} (h : Lone kindOf k u) : Lx u [tok1 k u] := fun p b t hb => ⟨[⟨k, u, p⟩], rfl, PLex.all_word h hb p t⟩
theorem all_sign1 {c : UInt8} (h : c ∈ ([40, 41, 44, 45, 59] : List UInt8)) (p : Nat) (r : List UInt8) : PLex.all kindOf p (c :: r) = ((PLex.all kindOf (p + 1) r).1, ⟨5, [c], p⟩ :: (PLex.all kindOf (p + 1) r).2) := by
  have e : PLex.step kindOf (c :: r) = (5, 1) := by
    simp only [List.mem_cons, List.not_mem_nil, or_false] at h
    rcases h with rfl | rfl | rfl | rfl | rfl <;> cases r <;> rfl
  rw [PLex.all_cons, e]
  rfl
theorem lx_open {c : UInt8} (h : c ∈ ([40, 41, 44, 45, 59] : List UInt8)) {l : List UInt8} {ts : List Tok} (hl : Lx l ts) : Lx (c :: l) (tok1 5 [c] :: ts) := fun p b t hb => by
  obtain ⟨us, h1, h2⟩ := hl (p + 1) b t hb
  refine ⟨⟨5, [c], p⟩ :: us, same_app (same_one 5 p [c]) h1, ?_⟩
  rw [List.cons_append, all_sign1 h, h2, List.length_cons, show p + (l.length + 1) = p + 1 + l.length by omega]
  rfl
theorem lx_blank {l : List UInt8} {ts : List Tok} (hl : Lx l ts) : Lx (32 :: l) ts := fun p b t hb => by
  obtain ⟨us, h1, h2⟩ := hl (p + 1) b t hb
  refine ⟨us, h1, ?_⟩
  rw [List.cons_append, PLex.all_blank, h2, List.length_cons, show p + (l.length + 1) = p + 1 + l.length by omega]
theorem lx_cat {l m : List UInt8} {ts us : List Tok} {c : UInt8} (hl : Lx l ts) (hc : Sep c) (hm : Lx (c :: m) us) : Lx (l ++ c :: m) (ts ++ us) := fun p b t hb => by
  obtain ⟨u1, h1, h2⟩ := hl p c (m ++ b :: t) hc
  obtain ⟨u2, h3, h4⟩ := hm (p + l.length) b t hb
  refine ⟨u1 ++ u2, same_app h1 h3, ?_⟩
  rw [List.append_assoc, List.cons_append, h2]
  rw [List.cons_append] at h4
  rw [h4, List.length_append, ← Nat.add_assoc, List.append_assoc]
theorem sep_of {b : UInt8} (h : b ∈ ([32, 40, 41, 44, 59] : List UInt8)) : Sep b := by
  simp only [List.mem_cons, List.not_mem_nil, or_false] at h
  unfold PLex.Sep
  rcases h with rfl | rfl | rfl | rfl | rfl <;> decide
theorem lx_gap {l m : List UInt8} {ts us : List Tok} (hl : Lx l ts) (hm : Lx m us) : Lx (l ++ 32 :: m) (ts ++ us) := lx_cat hl (sep_of (by decide)) (lx_blank hm)
theorem lx_held {r n : Nat} {l : List UInt8} {ts : List Tok} (hl : Lx l ts) : Lx (heldB r n l) (heldT r n ts) := by
  unfold heldB heldT
  by_cases h : r < n
  · rw [if_pos h, if_pos h]
    exact lx_open (by decide) (lx_cat hl (sep_of (by decide)) (lx_open (by decide) lx_nil))
  · rw [if_neg h, if_neg h]; exact hl
theorem lo_held' {r n : Nat} {l : List Tok} (h : Lo (heldT r n l)) : Lo l := by
  unfold heldT at h
  by_cases h1 : r < n
  · rw [if_pos h1] at h; exact (lo_app.1 (lo_cons.1 h).2).1
  · rw [if_neg h1] at h; exact h
theorem lx_tree : ∀ (t : Tr), Lo (tkT X0 t) → Lx (txB t) (tkT X0 t)
  | .whole n, h => lx_word (lo_cons.1 h).1
  | .amount n, h => lx_word (lo_cons.1 h).1
  | .rate n, h => lx_word (lo_cons.1 h).1
  | .name s, h => lx_word (lo_cons.1 h).1
  | .neg a, h => lx_open (by decide) (lx_held (lx_tree a (lo_held' (lo_cons.1 h).2)))
  | .bin op a b, h => by
    simp only [tkT, txB] at h ⊢
    by_cases h0 : op ∈ level 0
    · rw [if_pos h0] at h ⊢
      rw [if_pos h0]
      obtain ⟨p1, p2⟩ := lo_app.1 h
      obtain ⟨p3, p4⟩ := lo_cons.1 p2
      exact lx_gap (lx_held (lx_tree a (lo_held' p1))) (lx_gap (lx_word p3) (lx_held (lx_tree b (lo_held' p4))))
    rw [if_neg h0] at h ⊢
    rw [if_neg h0]
    by_cases h1 : op ∈ level 1
    · rw [if_pos h1] at h ⊢
      rw [if_pos h1]
      obtain ⟨p1, p2⟩ := lo_app.1 h
      obtain ⟨p3, p4⟩ := lo_cons.1 p2
      exact lx_gap (lx_held (lx_tree a (lo_held' p1))) (lx_gap (lx_word p3) (lx_held (lx_tree b (lo_held' p4))))
    rw [if_neg h1] at h ⊢
    rw [if_neg h1]
    by_cases h2 : op ∈ level 2
    · rw [if_pos h2] at h ⊢
      rw [if_pos h2]
      obtain ⟨p1, p2⟩ := lo_app.1 h
      obtain ⟨p3, p4⟩ := lo_cons.1 p2
      exact lx_gap (lx_held (lx_tree a (lo_held' p1))) (lx_gap (lx_word p3) (lx_held (lx_tree b (lo_held' p4))))
    rw [if_neg h2] at h ⊢
    rw [if_neg h2]
    obtain ⟨p1, p2⟩ := lo_cons.1 h
    obtain ⟨p3, p4⟩ := lo_app.1 (lo_cons.1 p2).2
    have p5 := (lo_app.1 (lo_cons.1 p4).2).1
    exact lx_cat (ts := [tok1 1 op]) (lx_word p1) (sep_of (by decide)) (lx_open (by decide) (lx_cat (lx_tree a p3) (sep_of (by decide)) (lx_open (by decide) (lx_blank (lx_cat (lx_tree b p5) (sep_of (by decide)) (lx_open (by decide) lx_nil))))))
  | .cond a b c, h => by
    simp only [tkT, txB] at h ⊢
    obtain ⟨p1, p2⟩ := lo_cons.1 h
    obtain ⟨p3, p4⟩ := lo_app.1 p2
    obtain ⟨p5, p6⟩ := lo_cons.1 p4
    obtain ⟨p7, p8⟩ := lo_app.1 p6
    obtain ⟨p9, pA⟩ := lo_cons.1 p8
    exact lx_gap (ts := [tok1 1 [105, 102]]) (lx_word p1) (lx_gap (lx_tree a p3) (lx_gap (ts := [tok1 1 [116, 104, 101, 110]]) (lx_word p5) (lx_gap (lx_tree b p7) (lx_gap (ts := [tok1 1 [101, 108, 115, 101]]) (lx_word p9) (lx_tree c pA)))))
def ruleT (r : Rl) : List Tok := tok1 1 r.kind :: tok1 1 r.name :: tok1 5 [61] :: (tkT X0 r.tree ++ [tok1 5 [59]])
theorem rulesT_cons (r : Rl) (rs : List Rl) : rulesT (r :: rs) = ruleT r ++ rulesT rs := by simp [rulesT, ruleT]
theorem lx_rule {r : Rl} (h : Lo (ruleT r)) : Lx (ruleB r) (ruleT r) := by
  obtain ⟨p1, p2⟩ := lo_cons.1 h
  obtain ⟨p3, p4⟩ := lo_cons.1 p2
  obtain ⟨p5, p6⟩ := lo_cons.1 p4
  obtain ⟨p7, _⟩ := lo_app.1 p6
  exact lx_gap (ts := [tok1 1 r.kind]) (lx_word p1) (lx_gap (ts := [tok1 1 r.name]) (lx_word p3) (lx_gap (ts := [tok1 5 [61]]) (lx_word p5) (lx_cat (lx_tree r.tree p7) (sep_of (by decide)) (lx_open (by decide) lx_nil))))
theorem text_lexed : ∀ (rs : List Rl) (p : Nat), Lo (rulesT rs) → (PLex.all kindOf p (textB rs)).1 = none ∧ Same (PLex.all kindOf p (textB rs)).2 (rulesT rs)
  | [], p, _ => ⟨rfl, rfl⟩
  | r :: rs, p, h => by
    rw [rulesT_cons] at h ⊢
    obtain ⟨h1, h2⟩ := lo_app.1 h
    obtain ⟨us, e1, e2⟩ := lx_rule h1 p 10 (textB rs) PLex.sep_line
    obtain ⟨g1, g2⟩ := text_lexed rs (p + (ruleB r).length + 1) h2
    simp only [textB]
    rw [e2, PLex.all_line]
    exact ⟨g1, same_app e1 g2⟩
theorem text_back {rs : List Rl} (hl : Lo (rulesT rs)) (hw : ∀ r ∈ rs, RWf r) (h60 : rs.length ≤ 60) : parse (textB rs) = some (.ok [] rs) := by
  obtain ⟨h1, h2⟩ := text_lexed rs 0 hl
  obtain ⟨r, hr⟩ : ∃ r, PLex.all kindOf 0 (textB rs) = r := ⟨_, rfl⟩
  obtain ⟨q, ts⟩ := r
  rw [hr] at h1 h2
  obtain rfl : q = none := h1
  unfold parse
  rw [hr]
  simp only []
  have hb := rules_back (textB rs).length rs 0 hw (by omega)
  have hrel := rules_rel (en := (textB rs).length) (en' := (textB rs).length) 0 h2
  rw [hb] at hrel
  obtain ⟨x, hx⟩ : ∃ x, rules (textB rs).length 0 ts = x := ⟨_, rfl⟩
  rw [hx] at hrel ⊢
  match x, hrel with
  | some (.ok us b), hrel =>
    obtain ⟨k1, rfl⟩ := hrel
    have : us = [] := by
      have := same_len k1
      exact List.eq_nil_of_length_eq_zero (by simpa using this)
    rw [this]
  | none, hrel => exact hrel.elim
  | some (.bad e p), hrel => exact hrel.elim
theorem parse_back {s : List UInt8} {t : List Tok} {rs : List Rl} (h : parse s = some (.ok t rs)) : parse (textB rs) = some (.ok [] rs) := by
  obtain ⟨_, _, h2, h3⟩ := parse_wt (φ := fun _ _ => 0) (fun _ => rfl) h
  exact text_back h2 (parse_wf h) h3
def φ2 (_ : Nat) (s : List UInt8) : Nat := s.length + 2
theorem heldB_len {r n : Nat} {l : List UInt8} {ts : List Tok} (h : l.length ≤ wt φ2 ts) : (heldB r n l).length ≤ wt φ2 (heldT r n ts) := by
  unfold heldB heldT
  by_cases h1 : r < n
  · rw [if_pos h1, if_pos h1]
    simp only [List.length_cons, List.length_append, List.length_nil, wt_cons, wt_app, wt_nil, tok1, φ2]
    omega
  · rw [if_neg h1, if_neg h1]; exact h
theorem txB_len : ∀ (t : Tr), (txB t).length ≤ wt φ2 (tkT X0 t)
  | .whole n => by simp only [txB, tkT, wt_cons, wt_nil, tok1, φ2, X0]; omega
  | .amount n => by simp only [txB, tkT, wt_cons, wt_nil, tok1, φ2, X0]; omega
  | .rate n => by simp only [txB, tkT, wt_cons, wt_nil, tok1, φ2, X0]; omega
  | .name s => by simp only [txB, tkT, wt_cons, wt_nil, tok1, φ2]; omega
  | .neg a => by
    have := heldB_len (r := rank a) (n := 3) (txB_len a)
    simp only [txB, tkT, wt_cons, tok1, φ2, List.length_cons, List.length_nil]
    omega
  | .bin op a b => by
    have a1 := heldB_len (r := rank a) (n := 1) (txB_len a)
    have a2 := heldB_len (r := rank a) (n := 2) (txB_len a)
    have b1 := heldB_len (r := rank b) (n := 1) (txB_len b)
    have b2 := heldB_len (r := rank b) (n := 2) (txB_len b)
    have b3 := heldB_len (r := rank b) (n := 3) (txB_len b)
    have a0 := txB_len a
    have b0 := txB_len b
    have e : ∀ k, φ2 k op = op.length + 2 := fun _ => rfl
    have e1 : ∀ k c, φ2 k [c] = 3 := fun _ _ => rfl
    simp only [txB, tkT]
    (repeat' split) <;> simp only [wt_cons, wt_app, wt_nil, tok1, List.length_append, List.length_cons, List.length_nil, e, e1] <;> omega
  | .cond a b c => by
    have a0 := txB_len a
    have b0 := txB_len b
    have c0 := txB_len c
    have e1 : φ2 1 [105, 102] = 4 := rfl
    have e2 : φ2 1 [116, 104, 101, 110] = 6 := rfl
    have e3 : φ2 1 [101, 108, 115, 101] = 6 := rfl
    simp only [txB, tkT, wt_cons, wt_app, tok1, List.length_append, List.length_cons, List.length_nil, e1, e2, e3]
    omega
theorem textB_len : ∀ (rs : List Rl), (textB rs).length ≤ wt φ2 (rulesT rs)
  | [] => Nat.le_refl _
  | r :: rs => by
    have h1 := txB_len r.tree
    have h2 := textB_len rs
    have e1 : φ2 5 [61] = 3 := rfl
    have e2 : φ2 5 [59] = 3 := rfl
    have e3 : ∀ k s, φ2 k s = s.length + 2 := fun _ _ => rfl
    simp only [textB, ruleB, rulesT, wt_cons, wt_app, tok1, List.length_append, List.length_cons, List.length_nil, e1, e2]
    rw [e3, e3]
    omega
end PTree

set_option linter.unusedVariables false
namespace PShow
open PCheck (Xp wholeS amountS rateS nameS negS ifS)
open PTree (heldB txB rank Tr Ex Rl level)

structure Fm where
  rank : Nat
  parts : List (List UInt8 × Nat)
  fin : List UInt8
deriving DecidableEq
def compL : List (List UInt8) := [[60], [60, 61], [61], [60, 62], [62], [62, 61]]
def between (op : List UInt8) (r a b : Nat) : Fm := ⟨r, [([], a), (32 :: (op ++ [32]), b)], []⟩
def formOf (op : List UInt8) : Option Fm :=
  if op = wholeS ∨ op = amountS ∨ op = rateS ∨ op = nameS then some ⟨3, [], []⟩
  else if op = negS then some ⟨3, [([45], 3)], []⟩
  else if op = [42] then some (between op 2 2 3)
  else if op = [43] ∨ op = [45] then some (between op 1 1 2)
  else if op ∈ compL then some (between op 0 1 1)
  else if op = [109, 105, 110] ∨ op = [109, 97, 120] then some ⟨3, [(op ++ [40], 0), ([44, 32], 0)], [41]⟩
  else if op = ifS then some ⟨0, [([105, 102, 32], 0), ([32, 116, 104, 101, 110, 32], 0), ([32, 101, 108, 115, 101, 32], 0)], []⟩
  else none
def rk (op : List UInt8) : Nat := match formOf op with | none => 0 | some f => f.rank
def places (x : Xp) : List Int := [x.a, x.b, x.c]
theorem form_few {op : List UInt8} {f : Fm} (h : formOf op = some f) : f.parts.length ≤ 3 := by
  unfold formOf at h
  (repeat' split at h) <;> first | (cases h; simp [between]) | cases h
def leafTx (x : Xp) : List UInt8 :=
  if x.op = wholeS then Go.Lib.itoa x.value
  else if x.op = amountS then (if x.value.natAbs ≤ PMoney.MM then PMoney.text x.value else [])
  else if x.op = rateS then (if 0 ≤ x.value ∧ x.value ≤ 10000 then PRate.text x.value else [])
  else if x.op = nameS then x.name else []
def partsTx (rkAt : Int → Nat) (tx : Int → List UInt8) : List (List UInt8 × Nat) → List Int → List UInt8
  | s :: ss, p :: ps => s.1 ++ heldB (rkAt p) s.2 (tx p) ++ partsTx rkAt tx ss ps
  | _, _ => []
def nodeTx (rkAt : Int → Nat) (tx : Int → List UInt8) (x : Xp) : List UInt8 := match formOf x.op with
  | none => []
  | some f => if f.parts = [] then leafTx x else partsTx rkAt tx f.parts (places x) ++ f.fin
def rkAt (E : List Xp) (p : Int) : Nat := match E[p.toNat]? with | none => 0 | some x => rk x.op
def txF (E : List Xp) : Nat → Nat → List UInt8
  | 0, _ => []
  | f + 1, i => match E[i]? with
    | none => []
    | some x => nodeTx (rkAt E) (fun p => txF E f p.toNat) x
def tx (E : List Xp) (i : Nat) : List UInt8 := txF E (i + 1) i
def Ahead (E : List Xp) : Prop := ∀ (i : Nat) (x : Xp) (f : Fm), E[i]? = some x → formOf x.op = some f → ∀ p ∈ (places x).take f.parts.length, 0 ≤ p ∧ p < (i : Int)
theorem partsTx_congr {g : Int → Nat} {t u : Int → List UInt8} : ∀ (ss : List (List UInt8 × Nat)) (ps : List Int), (∀ p ∈ ps.take ss.length, t p = u p) → partsTx g t ss ps = partsTx g u ss ps
  | [], _, _ => by cases ‹List Int› <;> rfl
  | _ :: _, [], _ => rfl
  | s :: ss, p :: ps, h => by
    simp only [partsTx]
    rw [h p (by simp), partsTx_congr ss ps (fun q hq => h q (by simp only [List.length_cons, List.take_succ_cons]; exact List.mem_cons_of_mem _ hq))]
theorem txF_eq {E : List Xp} (hE : Ahead E) : ∀ (i f : Nat), i + 1 ≤ f → txF E f i = tx E i := by
  intro i
  induction i using Nat.strongRecOn with
  | ind i ih =>
    intro f hf
    obtain ⟨g, rfl⟩ : ∃ g, f = g + 1 := ⟨f - 1, by omega⟩
    unfold tx
    simp only [txF]
    cases hx : E[i]? with
    | none => rfl
    | some x =>
      simp only []
      unfold nodeTx
      cases hf2 : formOf x.op with
      | none => rfl
      | some fm =>
        simp only []
        by_cases h0 : fm.parts = []
        · rw [if_pos h0, if_pos h0]
        · rw [if_neg h0, if_neg h0]
          rw [partsTx_congr fm.parts (places x) (fun p hp => ?_)]
          obtain ⟨h1, h2⟩ := hE i x fm hx hf2 p hp
          rw [ih p.toNat (by omega) g (by omega), ih p.toNat (by omega) i (by omega)]
theorem tx_node {E : List Xp} (hE : Ahead E) {i : Nat} {x : Xp} (hx : E[i]? = some x) : tx E i = nodeTx (rkAt E) (fun p => tx E p.toNat) x := by
  unfold tx
  simp only [txF]
  rw [hx]
  simp only []
  unfold nodeTx
  cases hf2 : formOf x.op with
  | none => rfl
  | some fm =>
    simp only []
    by_cases h0 : fm.parts = []
    · rw [if_pos h0, if_pos h0]
    · rw [if_neg h0, if_neg h0]
      rw [partsTx_congr fm.parts (places x) (fun p hp => ?_)]
      obtain ⟨h1, h2⟩ := hE i x fm hx hf2 p hp
      rw [txF_eq hE p.toNat i (by omega)]; rfl
def ord : List Xp → Nat → List Int → Option (List Int)
  | [], _, free => some free
  | x :: xs, i, free => match formOf x.op with
    | none => none
    | some f => if free.length < f.parts.length then none
      else if free.drop (free.length - f.parts.length) ≠ (places x).take f.parts.length then none
      else ord xs (i + 1) (free.take (free.length - f.parts.length) ++ [(i : Int)])
theorem ord_ahead : ∀ (xs : List Xp) (i : Nat) (free r : List Int), ord xs i free = some r → (∀ p ∈ free, 0 ≤ p ∧ p < (i : Int)) →
    (∀ p ∈ r, 0 ≤ p ∧ p < ((i + xs.length : Nat) : Int)) ∧ ∀ (k : Nat) (x : Xp), xs[k]? = some x → ∃ f, formOf x.op = some f ∧ ∀ p ∈ (places x).take f.parts.length, 0 ≤ p ∧ p < ((i + k : Nat) : Int)
  | [], i, free, r, h, hf => by
    simp only [ord, Option.some.injEq] at h
    subst h
    exact ⟨fun p hp => hf p hp, fun k x hx => by cases hx⟩
  | x :: xs, i, free, r, h, hf => by
    simp only [ord] at h
    cases hfm : formOf x.op with
    | none => rw [hfm] at h; cases h
    | some f =>
      rw [hfm] at h
      simp only [] at h
      by_cases h1 : free.length < f.parts.length
      · rw [if_pos h1] at h; cases h
      rw [if_neg h1] at h
      by_cases h2 : free.drop (free.length - f.parts.length) ≠ (places x).take f.parts.length
      · rw [if_pos h2] at h; cases h
      rw [if_neg h2] at h
      have h2 := Classical.not_not.1 h2
      obtain ⟨g1, g2⟩ := ord_ahead xs (i + 1) _ r h (fun p hp => by
        rcases List.mem_append.1 hp with hp | hp
        · have := hf p (List.mem_of_mem_take hp); omega
        · rw [List.mem_singleton.1 hp]; omega)
      refine ⟨fun p hp => by have := g1 p hp; simp only [List.length_cons]; omega, fun k y hy => ?_⟩
      cases k with
      | zero =>
        obtain rfl : x = y := by simpa using hy
        exact ⟨f, hfm, fun p hp => by rw [← h2] at hp; have := hf p (List.mem_of_mem_drop hp); omega⟩
      | succ k =>
        obtain ⟨f', e1, e2⟩ := g2 k y (by simpa using hy)
        exact ⟨f', e1, fun p hp => by have := e2 p hp; omega⟩
theorem ord_all {E : List Xp} {r : List Int} (h : ord E 0 [] = some r) : Ahead E ∧ (∀ (k : Nat) (x : Xp), E[k]? = some x → ∃ f, formOf x.op = some f) ∧ ∀ p ∈ r, 0 ≤ p ∧ p < (E.length : Int) := by
  obtain ⟨h1, h2⟩ := ord_ahead E 0 [] r h (fun p hp => by cases hp)
  refine ⟨fun i x f hx hf p hp => ?_, fun k x hx => (h2 k x hx).imp fun f h => h.1, fun p hp => by have := h1 p hp; simpa using this⟩
  obtain ⟨f', e1, e2⟩ := h2 i x hx
  rw [hf] at e1
  cases e1
  have := e2 p hp
  simpa using this
def own (x : Xp) : Nat := match formOf x.op with
  | none => 0
  | some f => if f.parts = [] then (leafTx x).length else (f.parts.map fun s => s.1.length + 2).sum + f.fin.length
theorem held_len (r n : Nat) (l : List UInt8) : (heldB r n l).length ≤ l.length + 2 := by
  unfold PTree.heldB
  by_cases h : r < n
  · rw [if_pos h]; simp
  · rw [if_neg h]; omega
theorem partsTx_len {g : Int → Nat} {t : Int → List UInt8} : ∀ (ss : List (List UInt8 × Nat)) (ps : List Int), (partsTx g t ss ps).length ≤ (ss.map fun s => s.1.length + 2).sum + ((ps.take ss.length).map fun p => (t p).length).sum
  | [], ps => by cases ps <;> simp [partsTx]
  | s :: ss, [] => by simp [partsTx]
  | s :: ss, p :: ps => by
    have ih := partsTx_len (g := g) (t := t) ss ps
    have hh := held_len (g p) s.2 (t p)
    simp only [partsTx, List.length_append, List.map_cons, List.sum_cons, List.length_cons, List.take_succ_cons]
    omega
theorem tx_len {E : List Xp} (hE : Ahead E) {i : Nat} {x : Xp} {f : Fm} (hx : E[i]? = some x) (hf : formOf x.op = some f) : (tx E i).length ≤ own x + (((places x).take f.parts.length).map fun p => (tx E p.toNat).length).sum := by
  rw [tx_node hE hx]
  unfold nodeTx own
  rw [hf]
  simp only []
  by_cases h0 : f.parts = []
  · rw [if_pos h0, if_pos h0]; omega
  · rw [if_neg h0, if_neg h0, List.length_append]
    have := partsTx_len (g := rkAt E) (t := fun p => tx E p.toNat) f.parts (places x)
    omega
end PShow

set_option linter.unusedVariables false
namespace PShow
open PCheck (Xp wholeS amountS rateS nameS negS ifS)
open PTree (heldB txB rank Tr Ex Rl level Wf X0 opsL)

def exX (x : Ex) : Xp := ⟨x.op, x.name, x.value, x.a, x.b, x.c⟩
theorem form_ops : ∀ op ∈ opsL, ∃ f, formOf op = some f ∧ f.parts.length = 2 := by
  have h : ∀ op ∈ opsL, (match formOf op with | none => false | some f => f.parts.length == 2) = true := by decide
  intro op ho
  have := h op ho
  cases hf : formOf op with
  | none => rw [hf] at this; cases this
  | some f => rw [hf] at this; exact ⟨f, rfl, by simpa using this⟩
theorem ord_step {x : Xp} {f : Fm} (hf : formOf x.op = some f) (rest : List Xp) (i : Nat) (free : List Int) (ps : List Int) (hp : ps = (places x).take f.parts.length) (hl : ps.length = f.parts.length) : ord (x :: rest) i (free ++ ps) = ord rest (i + 1) (free ++ [(i : Int)]) := by
  simp only [ord]
  rw [hf]
  simp only []
  have e : (free ++ ps).length - f.parts.length = free.length := by rw [List.length_append, hl]; omega
  rw [if_neg (by rw [List.length_append]; omega), e, List.drop_left, if_neg (by rw [hp]; exact fun h => h rfl), List.take_left]
theorem ord_leaf {x : Xp} (h : formOf x.op = some ⟨3, [], []⟩) (rest : List Xp) (i : Nat) (free : List Int) : ord (x :: rest) i free = ord rest (i + 1) (free ++ [(i : Int)]) := by
  have := ord_step h rest i free [] rfl rfl
  rw [List.append_nil] at this; exact this
theorem ord_tree : ∀ (t : Tr) (o : Nat) (rest : List Xp) (free : List Int), Wf X0 t → ord ((t.flat o).map exX ++ rest) o free = ord rest (o + t.size) (free ++ [((o + t.size - 1 : Nat) : Int)])
  | .whole n, o, rest, free, _ => ord_leaf rfl rest o free
  | .amount n, o, rest, free, _ => ord_leaf rfl rest o free
  | .rate n, o, rest, free, _ => ord_leaf rfl rest o free
  | .name s, o, rest, free, _ => ord_leaf rfl rest o free
  | .neg a, o, rest, free, h => by
    have hp := a.size_pos
    simp only [Tr.flat, Tr.size, List.map_append, List.map_cons, List.map_nil, List.append_assoc, List.cons_append, List.nil_append]
    rw [ord_tree a o _ free h, ord_step (f := ⟨3, [([45], 3)], []⟩) rfl rest _ free [((o + a.size - 1 : Nat) : Int)] rfl rfl]
    rw [show o + (a.size + 1) = o + a.size + 1 by omega, show o + a.size + 1 - 1 = o + a.size by omega]
  | .bin op a b, o, rest, free, h => by
    have ha := a.size_pos
    have hb := b.size_pos
    obtain ⟨f, hf, h2⟩ := form_ops op h.1
    simp only [Tr.flat, Tr.size, List.map_append, List.map_cons, List.map_nil, List.append_assoc, List.cons_append, List.nil_append]
    rw [ord_tree a o _ free h.2.1, ord_tree b (o + a.size) _ _ h.2.2, List.append_assoc]
    show ord (_ :: rest) _ (free ++ [((o + a.size - 1 : Nat) : Int), ((o + a.size + b.size - 1 : Nat) : Int)]) = _
    rw [ord_step (f := f) hf rest _ free [((o + a.size - 1 : Nat) : Int), ((o + a.size + b.size - 1 : Nat) : Int)] (by rw [h2]; rfl) (by rw [h2]; rfl)]
    rw [show o + (a.size + b.size + 1) = o + a.size + b.size + 1 by omega, show o + a.size + b.size + 1 - 1 = o + a.size + b.size by omega]
  | .cond a b c, o, rest, free, h => by
    have ha := a.size_pos
    have hb := b.size_pos
    have hc := c.size_pos
    simp only [Tr.flat, Tr.size, List.map_append, List.map_cons, List.map_nil, List.append_assoc, List.cons_append, List.nil_append]
    rw [ord_tree a o _ free h.1, ord_tree b (o + a.size) _ _ h.2.1, ord_tree c (o + a.size + b.size) _ _ h.2.2, List.append_assoc, List.append_assoc]
    show ord (_ :: rest) _ (free ++ [((o + a.size - 1 : Nat) : Int), ((o + a.size + b.size - 1 : Nat) : Int), ((o + a.size + b.size + c.size - 1 : Nat) : Int)]) = _
    rw [ord_step (f := ⟨0, [([105, 102, 32], 0), ([32, 116, 104, 101, 110, 32], 0), ([32, 101, 108, 115, 101, 32], 0)], []⟩) rfl rest _ free [((o + a.size - 1 : Nat) : Int), ((o + a.size + b.size - 1 : Nat) : Int), ((o + a.size + b.size + c.size - 1 : Nat) : Int)] rfl rfl]
    rw [show o + (a.size + b.size + c.size + 1) = o + a.size + b.size + c.size + 1 by omega, show o + a.size + b.size + c.size + 1 - 1 = o + a.size + b.size + c.size by omega]
def rootsOf : Nat → List Rl → List Int
  | _, [] => []
  | o, r :: rs => ((o + r.tree.size - 1 : Nat) : Int) :: rootsOf (o + r.tree.size) rs
theorem ord_rules : ∀ (rs : List Rl) (o : Nat) (free : List Int), (∀ r ∈ rs, Wf X0 r.tree) → ord ((PTree.exprsOf o rs).map exX) o free = some (free ++ rootsOf o rs)
  | [], o, free, _ => by simp [PTree.exprsOf, ord, rootsOf]
  | r :: rs, o, free, h => by
    simp only [PTree.exprsOf, rootsOf, List.map_append]
    rw [ord_tree r.tree o _ free (h r (List.mem_cons_self ..)), ord_rules rs _ _ (fun x hx => h x (List.mem_cons_of_mem _ hx)), List.append_assoc]
    rfl
theorem rows_roots : ∀ (rs : List Rl) (o : Nat), (PTree.rowsOf o rs).map (fun r => ((r.root : Nat) : Int)) = rootsOf o rs
  | [], _ => rfl
  | r :: rs, o => by simp only [PTree.rowsOf, rootsOf, List.map_cons, rows_roots]
theorem amount_in {n : Int} (h : Wf X0 (.amount n)) : n.natAbs ≤ PMoney.MM := by
  have h : PTree.leaf (PTree.tok1 3 (PMoney.text n)) = some (.amount n) := h
  rw [PTree.leaf_three] at h
  have e : (PMoney.parse (PMoney.text n)).getD 0 = n := by
    have := Option.some.inj h
    exact Tr.amount.inj this
  cases hp : PMoney.parse (PMoney.text n) with
  | none => rw [hp] at e; have e : (0 : Int) = n := e; rw [← e]; exact Nat.zero_le _
  | some m => rw [hp] at e; have e : m = n := e; rw [← e]; exact (PMoney.parse_some hp).2.1
theorem rate_in {n : Int} (h : Wf X0 (.rate n)) : 0 ≤ n ∧ n ≤ 10000 := by
  have h : PTree.leaf (PTree.tok1 4 (PRate.text n)) = some (.rate n) := h
  rw [PTree.leaf_four] at h
  have e : (PRate.parse (PRate.text n)).getD 0 = n := by
    have := Option.some.inj h
    exact Tr.rate.inj this
  cases hp : PRate.parse (PRate.text n) with
  | none => rw [hp] at e; have e : (0 : Int) = n := e; omega
  | some m =>
    rw [hp] at e
    have e : m = n := e
    have := (PRate.parse_iff _ _).1 hp
    omega
theorem rk_level {op : List UInt8} {a b : Tr} (ho : op ∈ opsL) : rk op = rank (.bin op a b) := by
  have h : ∀ op ∈ opsL, rk op = (if op ∈ level 0 then 0 else if op ∈ level 1 then 1 else if op ∈ level 2 then 2 else 3) := by decide
  exact h op ho
def Lies (E : List Xp) (o : Nat) (l : List Ex) : Prop := ∀ k x, l[k]? = some x → E[o + k]? = some (exX x)
theorem lies_app {E : List Xp} {o : Nat} {l m : List Ex} (h : Lies E o (l ++ m)) : Lies E o l ∧ Lies E (o + l.length) m := by
  refine ⟨fun k x hx => h k x ?_, fun k x hx => ?_⟩
  · rw [List.getElem?_append_left (List.getElem?_eq_some_iff.1 hx).1]; exact hx
  · rw [Nat.add_assoc]
    refine h (l.length + k) x ?_
    rw [List.getElem?_append_right (Nat.le_add_right _ _), Nat.add_sub_cancel_left]; exact hx
theorem rkAt_nat {E : List Xp} {i : Nat} {x : Xp} (h : E[i]? = some x) : rkAt E (i : Int) = rk x.op := by
  unfold rkAt
  rw [Int.toNat_natCast, h]
theorem form_level {op : List UInt8} (h : op ∈ opsL) : (op ∈ level 0 → formOf op = some (between op 0 1 1)) ∧ (op ∈ level 1 → formOf op = some (between op 1 1 2)) ∧ (op ∈ level 2 → formOf op = some (between op 2 2 3)) ∧
    (op ∉ level 0 → op ∉ level 1 → op ∉ level 2 → formOf op = some ⟨3, [(op ++ [40], 0), ([44, 32], 0)], [41]⟩) := by
  have k : ∀ op ∈ opsL, (op ∈ level 0 → formOf op = some (between op 0 1 1)) ∧ (op ∈ level 1 → formOf op = some (between op 1 1 2)) ∧ (op ∈ level 2 → formOf op = some (between op 2 2 3)) ∧
    (op ∉ level 0 → op ∉ level 1 → op ∉ level 2 → formOf op = some ⟨3, [(op ++ [40], 0), ([44, 32], 0)], [41]⟩) := by decide
  exact k op h
theorem held_zero (r : Nat) (l : List UInt8) : heldB r 0 l = l := by unfold PTree.heldB; rw [if_neg (by omega)]
theorem tx_form {E : List Xp} (hE : Ahead E) {i : Nat} {x : Xp} {f : Fm} (hx : E[i]? = some x) (hf : formOf x.op = some f) (h0 : f.parts ≠ []) : tx E i = partsTx (rkAt E) (fun p => tx E p.toNat) f.parts (places x) ++ f.fin := by
  rw [tx_node hE hx]
  unfold nodeTx
  rw [hf]
  simp only []
  rw [if_neg h0]
theorem tx_leaf {E : List Xp} (hE : Ahead E) {i : Nat} {x : Xp} (hx : E[i]? = some x) (hf : formOf x.op = some ⟨3, [], []⟩) : tx E i = leafTx x := by
  rw [tx_node hE hx]
  unfold nodeTx
  rw [hf]
  rfl
theorem itoa_nat (n : Nat) : Go.Lib.itoa (n : Int) = Go.Lib.decDigits n := by
  unfold Go.Lib.itoa
  rw [if_neg (by omega)]
  simp
theorem tx_tree {E : List Xp} (hE : Ahead E) : ∀ (t : Tr) (o : Nat), Wf X0 t → Lies E o (t.flat o) → tx E (o + t.size - 1) = txB t ∧ rkAt E ((o + t.size - 1 : Nat) : Int) = rank t
  | .whole n, o, h, hl => by
    have hx := hl 0 _ rfl
    exact ⟨(tx_leaf hE hx rfl).trans (itoa_nat n), rkAt_nat hx⟩
  | .amount n, o, h, hl => by
    have hx := hl 0 _ rfl
    refine ⟨(tx_leaf hE hx rfl).trans ?_, rkAt_nat hx⟩
    show (if n.natAbs ≤ PMoney.MM then PMoney.text n else []) = PMoney.text n
    rw [if_pos (amount_in h)]
  | .rate n, o, h, hl => by
    have hx := hl 0 _ rfl
    refine ⟨(tx_leaf hE hx rfl).trans ?_, rkAt_nat hx⟩
    show (if 0 ≤ n ∧ n ≤ 10000 then PRate.text n else []) = PRate.text n
    rw [if_pos (rate_in h)]
  | .name s, o, h, hl => by
    have hx := hl 0 _ rfl
    exact ⟨(tx_leaf hE hx rfl).trans rfl, rkAt_nat hx⟩
  | .neg a, o, h, hl => by
    have hp := a.size_pos
    obtain ⟨l1, l2⟩ := lies_app hl
    obtain ⟨t1, r1⟩ := tx_tree hE a o h l1
    have hx := l2 0 _ rfl
    rw [Tr.flat_len] at hx
    have e : o + (Tr.neg a).size - 1 = o + a.size + 0 := by simp only [Tr.size]; omega
    rw [e]
    refine ⟨?_, rkAt_nat hx⟩
    rw [tx_form hE hx (f := ⟨3, [([45], 3)], []⟩) rfl (by decide)]
    show [45] ++ heldB (rkAt E ((o + a.size - 1 : Nat) : Int)) 3 (tx E ((o + a.size - 1 : Nat) : Int).toNat) ++ [] ++ [] = 45 :: heldB (rank a) 3 (txB a)
    rw [Int.toNat_natCast, t1, r1]
    simp
  | .bin op a b, o, h, hl => by
    have ha := a.size_pos
    have hb := b.size_pos
    obtain ⟨l1, l2⟩ := lies_app hl
    obtain ⟨l3, l4⟩ := lies_app l1
    rw [Tr.flat_len] at l4
    rw [List.length_append, Tr.flat_len, Tr.flat_len] at l2
    obtain ⟨t1, r1⟩ := tx_tree hE a o h.2.1 l3
    obtain ⟨t2, r2⟩ := tx_tree hE b (o + a.size) h.2.2 l4
    have hx := l2 0 _ rfl
    have e : o + (Tr.bin op a b).size - 1 = o + (a.size + b.size) + 0 := by simp only [Tr.size]; omega
    rw [e]
    refine ⟨?_, (rkAt_nat hx).trans (rk_level h.1)⟩
    obtain ⟨f0, f1, f2, f3⟩ := form_level h.1
    have pl : places (exX ⟨op, [], 0, o + a.size - 1, o + a.size + b.size - 1, 0⟩) = [((o + a.size - 1 : Nat) : Int), ((o + a.size + b.size - 1 : Nat) : Int), ((0 : Nat) : Int)] := rfl
    simp only [txB]
    by_cases h0 : op ∈ level 0
    · rw [if_pos h0, tx_form hE hx (f0 h0) (by simp [between]), pl]
      simp only [between, partsTx, Int.toNat_natCast, t1, r1, t2, r2]
      simp
    rw [if_neg h0]
    by_cases h1 : op ∈ level 1
    · rw [if_pos h1, tx_form hE hx (f1 h1) (by simp [between]), pl]
      simp only [between, partsTx, Int.toNat_natCast, t1, r1, t2, r2]
      simp
    rw [if_neg h1]
    by_cases h2 : op ∈ level 2
    · rw [if_pos h2, tx_form hE hx (f2 h2) (by simp [between]), pl]
      simp only [between, partsTx, Int.toNat_natCast, t1, r1, t2, r2]
      simp
    rw [if_neg h2, tx_form hE hx (f3 h0 h1 h2) (by simp), pl]
    simp only [partsTx, Int.toNat_natCast, t1, r1, t2, r2, held_zero]
    simp
  | .cond a b c, o, h, hl => by
    have ha := a.size_pos
    have hb := b.size_pos
    have hc := c.size_pos
    obtain ⟨l1, l2⟩ := lies_app hl
    obtain ⟨l3, l4⟩ := lies_app l1
    obtain ⟨l5, l6⟩ := lies_app l3
    rw [Tr.flat_len] at l6
    rw [List.length_append, Tr.flat_len, Tr.flat_len, ← Nat.add_assoc] at l4
    rw [List.length_append, List.length_append, Tr.flat_len, Tr.flat_len, Tr.flat_len] at l2
    obtain ⟨t1, r1⟩ := tx_tree hE a o h.1 l5
    obtain ⟨t2, r2⟩ := tx_tree hE b (o + a.size) h.2.1 l6
    obtain ⟨t3, r3⟩ := tx_tree hE c (o + a.size + b.size) h.2.2 l4
    have hx := l2 0 _ rfl
    have e : o + (Tr.cond a b c).size - 1 = o + (a.size + b.size + c.size) + 0 := by simp only [Tr.size]; omega
    rw [e]
    refine ⟨?_, rkAt_nat hx⟩
    have pl : places (exX ⟨ifS, [], 0, o + a.size - 1, o + a.size + b.size - 1, o + a.size + b.size + c.size - 1⟩) = [((o + a.size - 1 : Nat) : Int), ((o + a.size + b.size - 1 : Nat) : Int), ((o + a.size + b.size + c.size - 1 : Nat) : Int)] := rfl
    rw [tx_form hE hx (f := ⟨0, [([105, 102, 32], 0), ([32, 116, 104, 101, 110, 32], 0), ([32, 101, 108, 115, 101, 32], 0)], []⟩) rfl (by decide)]
    have pl' : places (exX ⟨[105, 102], [], 0, o + a.size - 1, o + a.size + b.size - 1, o + a.size + b.size + c.size - 1⟩) = [((o + a.size - 1 : Nat) : Int), ((o + a.size + b.size - 1 : Nat) : Int), ((o + a.size + b.size + c.size - 1 : Nat) : Int)] := pl
    rw [pl']
    simp only [partsTx, Int.toNat_natCast, t1, t2, t3, held_zero, txB]
    simp
def linesTx (E : List Xp) : List (List UInt8 × List UInt8 × Int) → List UInt8
  | [] => []
  | r :: rs => r.1 ++ [32] ++ r.2.1 ++ [32, 61, 32] ++ tx E r.2.2.toNat ++ [59, 10] ++ linesTx E rs
theorem lines_rules {E : List Xp} (hE : Ahead E) : ∀ (rs : List Rl) (o : Nat), (∀ r ∈ rs, Wf X0 r.tree) → Lies E o (PTree.exprsOf o rs) → linesTx E ((PTree.rowsOf o rs).map fun r => (r.kind, r.name, ((r.root : Nat) : Int))) = PTree.textB rs
  | [], _, _, _ => rfl
  | r :: rs, o, h, hl => by
    obtain ⟨l1, l2⟩ := lies_app hl
    rw [Tr.flat_len] at l2
    obtain ⟨t1, _⟩ := tx_tree hE r.tree o (h r (List.mem_cons_self ..)) l1
    have ih := lines_rules hE rs (o + r.tree.size) (fun x hx => h x (List.mem_cons_of_mem _ hx)) l2
    simp only [PTree.rowsOf, List.map_cons, linesTx, PTree.textB, PTree.ruleB, Int.toNat_natCast, t1]
    rw [ih]
    simp
theorem lies_self (rs : List Rl) : Lies ((PTree.exprsOf 0 rs).map exX) 0 (PTree.exprsOf 0 rs) := fun k x hx => by
  rw [Nat.zero_add, List.getElem?_map, hx]; rfl
theorem read_lines {rs : List Rl} (h : ∀ r ∈ rs, Wf X0 r.tree) : ord ((PTree.exprsOf 0 rs).map exX) 0 [] = some (rootsOf 0 rs) ∧ Ahead ((PTree.exprsOf 0 rs).map exX) ∧
    linesTx ((PTree.exprsOf 0 rs).map exX) ((PTree.rowsOf 0 rs).map fun r => (r.kind, r.name, ((r.root : Nat) : Int))) = PTree.textB rs := by
  have h1 := ord_rules rs 0 [] h
  rw [List.nil_append] at h1
  have hE := (ord_all h1).1
  exact ⟨h1, hE, lines_rules hE rs 0 h (lies_self rs)⟩
end PShow

set_option linter.unusedVariables false
namespace POrd
open PCheck (Xp Bd Reach Good parts made)
open PTree (Tr Rl Ex Wf X0 opsL)
open PShow (exX Lies lies_app)

def inB : List Bd := [⟨[98, 97, 115, 101], 1⟩, ⟨[98, 111, 110, 117, 115], 1⟩, ⟨[104, 111, 117, 114, 115], 3⟩, ⟨[100, 97, 121, 115], 3⟩, ⟨[108, 101, 97, 100], 4⟩]
def inN : List (List UInt8) := inB.map (·.name)
def least (n : Nat) (P : Nat → Bool) : Option Nat := (List.range n).find? P
theorem least_some {n i : Nat} {P : Nat → Bool} (hi : i < n) (hp : P i = true) (hj : ∀ j, j < i → P j = false) : least n P = some i := by
  unfold least
  rw [List.find?_range_eq_some]
  exact ⟨hp, by simpa using hi, fun j h => by rw [hj j h]; rfl⟩
theorem least_none {n : Nat} {P : Nat → Bool} (hj : ∀ j, j < n → P j = false) : least n P = none := by
  unfold least
  rw [List.find?_eq_none]
  intro x hx
  rw [hj x (by simpa using hx)]
  decide
theorem least_is {n i : Nat} {P : Nat → Bool} (h : least n P = some i) : i < n ∧ P i = true ∧ ∀ j, j < i → P j = false := by
  unfold least at h
  rw [List.find?_range_eq_some] at h
  exact ⟨by simpa using h.2.1, h.1, fun j hj => by simpa using h.2.2 j hj⟩
theorem least_no {n : Nat} {P : Nat → Bool} (h : least n P = none) : ∀ j, j < n → P j = false := by
  unfold least at h
  rw [List.find?_eq_none] at h
  intro j hj
  have := h j (by simpa using hj)
  simpa using this
def dup (names : List (List UInt8)) (i : Nat) : Bool := (inN ++ names.take i).contains (names.getD i [])
def twice (names : List (List UInt8)) : Option Nat := least names.length (dup names)
def free (n : Nat) (H : Nat → Nat → Bool) (l : List Nat) (i : Nat) : Bool := !l.contains i && (List.range n).all (fun k => !H i k || l.contains k)
def next (n : Nat) (H : Nat → Nat → Bool) (l : List Nat) : Option Nat := least n (free n H l)
def first (n : Nat) (l : List Nat) : Nat := (least n (fun i => !l.contains i)).getD 0
def sortF (n : Nat) (H : Nat → Nat → Bool) : Nat → List Nat → Option (List Nat) × Nat
  | 0, l => (some l, 0)
  | f + 1, l => if l.length < n then match next n H l with
      | none => (none, first n l)
      | some i => sortF n H f (l ++ [i])
    else (some l, 0)
def sort (n : Nat) (H : Nat → Nat → Bool) : Option (List Nat) × Nat := sortF n H n []
def ans (names : List (List UInt8)) (H : Nat → Nat → Bool) : List Nat × Nat × Nat := match twice names with
  | some i => ([], i, 6)
  | none => match sort names.length H with
    | (some l, _) => (l, 0, 0)
    | (none, i) => ([], i, 8)
theorem free_iff {n : Nat} {H : Nat → Nat → Bool} {l : List Nat} {i : Nat} : free n H l i = true ↔ i ∉ l ∧ ∀ k, k < n → H i k = true → k ∈ l := by
  unfold free
  rw [Bool.and_eq_true, List.all_eq_true]
  constructor
  · rintro ⟨h1, h2⟩
    refine ⟨by simpa using h1, fun k hk hh => ?_⟩
    have := h2 k (by simpa using hk)
    rw [hh] at this
    simpa using this
  · rintro ⟨h1, h2⟩
    refine ⟨by simpa using h1, fun k hk => ?_⟩
    by_cases hh : H i k = true
    · have := h2 k (by simpa using hk) hh
      simp [this]
    · simp [hh]
structure Good0 (n : Nat) (l : List Nat) : Prop where
  nodup : l.Nodup
  lt : ∀ i ∈ l, i < n
theorem sub_len : ∀ (a b : List Nat), a.Nodup → (∀ x ∈ a, x ∈ b) → a.length ≤ b.length
  | [], b, _, _ => Nat.zero_le _
  | x :: a, b, h, hs => by
    rw [List.nodup_cons] at h
    have hx := hs x (List.mem_cons_self ..)
    have ih := sub_len a (b.erase x) h.2 (fun y hy => (List.mem_erase_of_ne (by rintro rfl; exact h.1 hy)).2 (hs y (List.mem_cons_of_mem _ hy)))
    rw [List.length_erase, if_pos hx] at ih
    have := List.length_pos_of_mem hx
    simp only [List.length_cons]; omega
theorem good0_len {n : Nat} {l : List Nat} (h : Good0 n l) : l.length ≤ n := by
  have := sub_len l (List.range n) h.nodup (fun i hi => List.mem_range.2 (h.lt i hi))
  simpa using this
theorem good0_snoc {n : Nat} {H : Nat → Nat → Bool} {l : List Nat} {i : Nat} (h : Good0 n l) (hn : next n H l = some i) : Good0 n (l ++ [i]) := by
  obtain ⟨h1, h2, -⟩ := least_is hn
  obtain ⟨h3, -⟩ := free_iff.1 h2
  refine ⟨?_, fun j hj => ?_⟩
  · rw [List.nodup_append]
    exact ⟨h.nodup, by simp, fun a ha b hb => by rw [List.mem_singleton.1 hb]; rintro rfl; exact h3 ha⟩
  · rcases List.mem_append.1 hj with hj | hj
    · exact h.lt j hj
    · rw [List.mem_singleton.1 hj]; exact h1
theorem first_is {n : Nat} {l : List Nat} (h : Good0 n l) (hl : l.length < n) : first n l < n ∧ first n l ∉ l ∧ ∀ j, j < first n l → j ∈ l := by
  unfold first
  cases hf : least n (fun i => !l.contains i) with
  | some i =>
    obtain ⟨h1, h2, h3⟩ := least_is hf
    exact ⟨h1, by simpa using h2, fun j hj => by simpa using h3 j hj⟩
  | none =>
    have h2 := least_no hf
    have := sub_len (List.range n) l List.nodup_range (fun i hi => by have := h2 i (List.mem_range.1 hi); simpa using this)
    simp at this; omega
theorem sortF_more {n f : Nat} {H : Nat → Nat → Bool} {l : List Nat} {i : Nat} (h : l.length < n) (hi : next n H l = some i) : sortF n H (f + 1) l = sortF n H f (l ++ [i]) := by
  simp only [sortF]; rw [if_pos h, hi]
theorem sortF_stop {n f : Nat} {H : Nat → Nat → Bool} {l : List Nat} (h : l.length < n) (hi : next n H l = none) : sortF n H (f + 1) l = (none, first n l) := by
  simp only [sortF]; rw [if_pos h, hi]
theorem sortF_done {n f : Nat} {H : Nat → Nat → Bool} {l : List Nat} (h : ¬ l.length < n) : sortF n H f l = (some l, 0) := by
  cases f with
  | zero => rfl
  | succ f => simp only [sortF]; rw [if_neg h]
def nms : Tr → List (List UInt8)
  | .whole _ => [] | .amount _ => [] | .rate _ => [] | .name s => [s]
  | .neg a => nms a | .bin _ a b => nms a ++ nms b | .cond a b c => nms a ++ nms b ++ nms c
def nmE (l : List Ex) : List (List UInt8) := (l.filter (fun x => x.op == PCheck.nameS)).map (·.name)
theorem nmE_app (a b : List Ex) : nmE (a ++ b) = nmE a ++ nmE b := by unfold nmE; rw [List.filter_append, List.map_append]
theorem ops_name : ∀ op ∈ opsL, (op == PCheck.nameS) = false := by decide
theorem nmE_one {x : Ex} (h : (x.op == PCheck.nameS) = false) : nmE [x] = [] := by unfold nmE; simp [h]
theorem nmE_flat : ∀ (t : Tr) (o : Nat), Wf X0 t → nmE (t.flat o) = nms t
  | .whole _, _, _ => nmE_one (x := ⟨[119, 104, 111, 108, 101], [], _, 0, 0, 0⟩) (show (PCheck.wholeS == PCheck.nameS) = false by decide)
  | .amount _, _, _ => nmE_one (x := ⟨[97, 109, 111, 117, 110, 116], [], _, 0, 0, 0⟩) (show (PCheck.amountS == PCheck.nameS) = false by decide)
  | .rate _, _, _ => nmE_one (x := ⟨[114, 97, 116, 101], [], _, 0, 0, 0⟩) (show (PCheck.rateS == PCheck.nameS) = false by decide)
  | .name s, _, _ => rfl
  | .neg a, o, h => by
    simp only [Tr.flat, nmE_app]
    rw [nmE_flat a o h, nmE_one (x := ⟨[110, 101, 103], [], 0, _, 0, 0⟩) (show (PCheck.negS == PCheck.nameS) = false by decide), List.append_nil]; rfl
  | .bin op a b, o, h => by
    simp only [Tr.flat, nmE_app]
    rw [nmE_flat a o h.2.1, nmE_flat b _ h.2.2, nmE_one (x := ⟨op, [], 0, _, _, 0⟩) (ops_name op h.1), List.append_nil]; rfl
  | .cond a b c, o, h => by
    simp only [Tr.flat, nmE_app]
    rw [nmE_flat a o h.1, nmE_flat b _ h.2.1, nmE_flat c _ h.2.2, nmE_one (x := ⟨[105, 102], [], 0, _, _, _⟩) (show (PCheck.ifS == PCheck.nameS) = false by decide), List.append_nil]; rfl
theorem nmE_mem {l : List Ex} {s : List UInt8} : s ∈ nmE l ↔ ∃ x ∈ l, x.op = PCheck.nameS ∧ x.name = s := by
  unfold nmE
  simp only [List.mem_map, List.mem_filter, beq_iff_eq]
  exact ⟨fun ⟨x, ⟨h1, h2⟩, h3⟩ => ⟨x, h1, h2, h3⟩, fun ⟨x, h1, h2, h3⟩ => ⟨x, ⟨h1, h2⟩, h3⟩⟩
def hangs (rs : List Rl) (i k : Nat) : Bool := match rs[i]?, rs[k]? with
  | some r, some q => (nms r.tree).contains q.name
  | _, _ => false
theorem parts_ops {op : List UInt8} (h : op ∈ opsL) (nm : List UInt8) (v a b c : Int) : parts ⟨op, nm, v, a, b, c⟩ = [a, b] := by
  simp only [PTree.opsL, List.mem_cons, List.not_mem_nil, or_false] at h
  rcases h with rfl | rfl | rfl | rfl | rfl | rfl | rfl | rfl | rfl | rfl | rfl <;> rfl
theorem reach_trans {E : List Xp} {r i j : Nat} (h : Reach E r i) (h2 : Reach E i j) : Reach E r j := by
  induction h2 with
  | root => exact h
  | part _ hx hp ih => exact .part ih hx hp
theorem tree_in {E : List Xp} : ∀ (t : Tr) (o : Nat), Wf X0 t → Lies E o (t.flat o) → (∀ i, o ≤ i → i < o + t.size → ∃ x, E[i]? = some x ∧ ∀ p ∈ parts x, (o : Int) ≤ p ∧ p < (i : Int)) ∧ ∀ j, o ≤ j → j < o + t.size → Reach E (o + t.size - 1) j
  | .whole n, o, h, hl => ⟨fun i h1 h2 => by
      have h2 : i < o + 1 := h2
      obtain rfl : i = o := by omega
      exact ⟨_, hl 0 _ rfl, fun p hp => by cases hp⟩, fun j h1 h2 => by
      have h2 : j < o + 1 := h2
      obtain rfl : j = o := by omega
      exact .root⟩
  | .amount n, o, h, hl => ⟨fun i h1 h2 => by
      have h2 : i < o + 1 := h2
      obtain rfl : i = o := by omega
      exact ⟨_, hl 0 _ rfl, fun p hp => by cases hp⟩, fun j h1 h2 => by
      have h2 : j < o + 1 := h2
      obtain rfl : j = o := by omega
      exact .root⟩
  | .rate n, o, h, hl => ⟨fun i h1 h2 => by
      have h2 : i < o + 1 := h2
      obtain rfl : i = o := by omega
      exact ⟨_, hl 0 _ rfl, fun p hp => by cases hp⟩, fun j h1 h2 => by
      have h2 : j < o + 1 := h2
      obtain rfl : j = o := by omega
      exact .root⟩
  | .name s, o, h, hl => ⟨fun i h1 h2 => by
      have h2 : i < o + 1 := h2
      obtain rfl : i = o := by omega
      exact ⟨_, hl 0 _ rfl, fun p hp => by cases hp⟩, fun j h1 h2 => by
      have h2 : j < o + 1 := h2
      obtain rfl : j = o := by omega
      exact .root⟩
  | .neg a, o, h, hl => by
    have hp := a.size_pos
    obtain ⟨l1, l2⟩ := lies_app hl
    obtain ⟨c1, d1⟩ := tree_in a o h l1
    have hx := l2 0 _ rfl
    rw [Tr.flat_len, Nat.add_zero] at hx
    have e : o + (Tr.neg a).size - 1 = o + a.size := by simp only [Tr.size]; omega
    have e2 : o + (Tr.neg a).size = o + a.size + 1 := by simp only [Tr.size]; omega
    rw [e, e2]
    refine ⟨fun i h1 h2 => ?_, fun j h1 h2 => ?_⟩
    · by_cases hi : i < o + a.size
      · exact c1 i h1 hi
      · obtain rfl : i = o + a.size := by omega
        refine ⟨_, hx, fun p hpp => ?_⟩
        have hpp : p ∈ [((o + a.size - 1 : Nat) : Int)] := hpp
        rw [List.mem_singleton.1 hpp]; omega
    · by_cases hj : j < o + a.size
      · refine reach_trans ?_ (d1 j h1 hj)
        have : Reach E (o + a.size) (((o + a.size - 1 : Nat) : Int)).toNat := .part .root hx (show _ ∈ [((o + a.size - 1 : Nat) : Int)] from List.mem_singleton.2 rfl)
        rwa [Int.toNat_natCast] at this
      · obtain rfl : j = o + a.size := by omega
        exact .root
  | .bin op a b, o, h, hl => by
    have ha := a.size_pos
    have hb := b.size_pos
    obtain ⟨l1, l2⟩ := lies_app hl
    obtain ⟨l3, l4⟩ := lies_app l1
    rw [Tr.flat_len] at l4
    obtain ⟨c1, d1⟩ := tree_in a o h.2.1 l3
    obtain ⟨c2, d2⟩ := tree_in b (o + a.size) h.2.2 l4
    have hx := l2 0 _ rfl
    rw [List.length_append, Tr.flat_len, Tr.flat_len, Nat.add_zero] at hx
    have e : o + (Tr.bin op a b).size - 1 = o + (a.size + b.size) := by simp only [Tr.size]; omega
    have e2 : o + (Tr.bin op a b).size = o + (a.size + b.size) + 1 := by simp only [Tr.size]; omega
    have hpt : parts (exX ⟨op, [], 0, o + a.size - 1, o + a.size + b.size - 1, 0⟩) = [((o + a.size - 1 : Nat) : Int), ((o + a.size + b.size - 1 : Nat) : Int)] := parts_ops h.1 _ _ _ _ _
    rw [e, e2]
    refine ⟨fun i h1 h2 => ?_, fun j h1 h2 => ?_⟩
    · by_cases hi : i < o + a.size
      · exact c1 i h1 hi
      by_cases hi2 : i < o + a.size + b.size
      · obtain ⟨x, k1, k2⟩ := c2 i (by omega) hi2
        exact ⟨x, k1, fun p hp => by have := k2 p hp; omega⟩
      · obtain rfl : i = o + (a.size + b.size) := by omega
        refine ⟨_, hx, fun p hpp => ?_⟩
        rw [hpt] at hpp
        simp only [List.mem_cons, List.not_mem_nil, or_false] at hpp
        rcases hpp with rfl | rfl <;> omega
    · by_cases hj : j < o + a.size
      · refine reach_trans ?_ (d1 j h1 hj)
        have : Reach E (o + (a.size + b.size)) (((o + a.size - 1 : Nat) : Int)).toNat := .part .root hx (by rw [hpt]; exact List.mem_cons_self ..)
        rwa [Int.toNat_natCast] at this
      by_cases hj2 : j < o + a.size + b.size
      · refine reach_trans ?_ (d2 j (by omega) hj2)
        have : Reach E (o + (a.size + b.size)) (((o + a.size + b.size - 1 : Nat) : Int)).toNat := .part .root hx (by rw [hpt]; exact List.mem_cons_of_mem _ (List.mem_cons_self ..))
        rwa [Int.toNat_natCast] at this
      · obtain rfl : j = o + (a.size + b.size) := by omega
        exact .root
  | .cond a b c, o, h, hl => by
    have ha := a.size_pos
    have hb := b.size_pos
    have hc := c.size_pos
    obtain ⟨l1, l2⟩ := lies_app hl
    obtain ⟨l3, l4⟩ := lies_app l1
    obtain ⟨l5, l6⟩ := lies_app l3
    rw [Tr.flat_len] at l6
    rw [List.length_append, Tr.flat_len, Tr.flat_len, ← Nat.add_assoc] at l4
    obtain ⟨c1, d1⟩ := tree_in a o h.1 l5
    obtain ⟨c2, d2⟩ := tree_in b (o + a.size) h.2.1 l6
    obtain ⟨c3, d3⟩ := tree_in c (o + a.size + b.size) h.2.2 l4
    have hx := l2 0 _ rfl
    rw [List.length_append, List.length_append, Tr.flat_len, Tr.flat_len, Tr.flat_len, Nat.add_zero] at hx
    have e : o + (Tr.cond a b c).size - 1 = o + (a.size + b.size + c.size) := by simp only [Tr.size]; omega
    have e2 : o + (Tr.cond a b c).size = o + (a.size + b.size + c.size) + 1 := by simp only [Tr.size]; omega
    have hpt : parts (exX ⟨[105, 102], [], 0, o + a.size - 1, o + a.size + b.size - 1, o + a.size + b.size + c.size - 1⟩) = [((o + a.size - 1 : Nat) : Int), ((o + a.size + b.size - 1 : Nat) : Int), ((o + a.size + b.size + c.size - 1 : Nat) : Int)] := rfl
    rw [e, e2]
    refine ⟨fun i h1 h2 => ?_, fun j h1 h2 => ?_⟩
    · by_cases hi : i < o + a.size
      · exact c1 i h1 hi
      by_cases hi2 : i < o + a.size + b.size
      · obtain ⟨x, k1, k2⟩ := c2 i (by omega) hi2
        exact ⟨x, k1, fun p hp => by have := k2 p hp; omega⟩
      by_cases hi3 : i < o + a.size + b.size + c.size
      · obtain ⟨x, k1, k2⟩ := c3 i (by omega) hi3
        exact ⟨x, k1, fun p hp => by have := k2 p hp; omega⟩
      · obtain rfl : i = o + (a.size + b.size + c.size) := by omega
        refine ⟨_, hx, fun p hpp => ?_⟩
        rw [hpt] at hpp
        simp only [List.mem_cons, List.not_mem_nil, or_false] at hpp
        rcases hpp with rfl | rfl | rfl <;> omega
    · by_cases hj : j < o + a.size
      · refine reach_trans ?_ (d1 j h1 hj)
        have : Reach E (o + (a.size + b.size + c.size)) (((o + a.size - 1 : Nat) : Int)).toNat := .part .root hx (by rw [hpt]; exact List.mem_cons_self ..)
        rwa [Int.toNat_natCast] at this
      by_cases hj2 : j < o + a.size + b.size
      · refine reach_trans ?_ (d2 j (by omega) hj2)
        have : Reach E (o + (a.size + b.size + c.size)) (((o + a.size + b.size - 1 : Nat) : Int)).toNat := .part .root hx (by rw [hpt]; exact List.mem_cons_of_mem _ (List.mem_cons_self ..))
        rwa [Int.toNat_natCast] at this
      by_cases hj3 : j < o + a.size + b.size + c.size
      · refine reach_trans ?_ (d3 j (by omega) hj3)
        have : Reach E (o + (a.size + b.size + c.size)) (((o + a.size + b.size + c.size - 1 : Nat) : Int)).toNat := .part .root hx (by rw [hpt]; exact List.mem_cons_of_mem _ (List.mem_cons_of_mem _ (List.mem_cons_self ..)))
        rwa [Int.toNat_natCast] at this
      · obtain rfl : j = o + (a.size + b.size + c.size) := by omega
        exact .root
theorem reach_in {E : List Xp} {r o : Nat} (ho : o ≤ r) (h : ∀ i, o ≤ i → i ≤ r → ∃ x, E[i]? = some x ∧ ∀ p ∈ parts x, (o : Int) ≤ p ∧ p < (i : Int)) : ∀ j, Reach E r j → o ≤ j ∧ j ≤ r := by
  intro j hj
  induction hj with
  | root => exact ⟨ho, Nat.le_refl _⟩
  | part _ hx hp ih =>
    obtain ⟨x, k1, k2⟩ := h _ ih.1 ih.2
    rw [hx] at k1; cases k1
    have := k2 _ hp
    omega
theorem tree_made {E : List Xp} {t : Tr} {o : Nat} (h : Wf X0 t) (hl : Lies E o (t.flat o)) : ∃ m, made E (o + t.size - 1) = some m ∧ m.length = o + t.size ∧ ∀ j, m[j]? = some true ↔ o ≤ j ∧ j < o + t.size := by
  have hp := t.size_pos
  obtain ⟨c, d⟩ := tree_in t o h hl
  have hr := reach_in (E := E) (r := o + t.size - 1) (o := o) (by omega) (fun i h1 h2 => c i h1 (by omega))
  have hlt : o + t.size - 1 < E.length := by
    obtain ⟨x, hx, -⟩ := c (o + t.size - 1) (by omega) (by omega)
    exact (List.getElem?_eq_some_iff.1 hx).1
  have hg : Good E (o + t.size - 1) := fun i hi => by
    have := hr i hi
    obtain ⟨x, hx, hp⟩ := c i this.1 (by omega)
    exact ⟨x, hx, fun p hpp => by have := hp p hpp; omega⟩
  have hs := PCheck.made_spec hlt
  cases hm : made E (o + t.size - 1) with
  | none => rw [hm] at hs; exact absurd hg hs
  | some m =>
    rw [hm] at hs
    refine ⟨m, rfl, by rw [hs.1]; omega, fun j => ?_⟩
    rw [hs.2.1 j]
    exact ⟨fun h => by have := hr j h; omega, fun h => d j h.1 h.2⟩
end POrd

set_option linter.unusedVariables false
namespace PShow
open PCheck (Xp wholeS amountS rateS nameS negS ifS)
open PTree (heldB)

abbrev Pc := List UInt8 × Int
def pcs (g : Int → Nat) : List (List UInt8 × Nat) → List Int → List Pc
  | s :: ss, p :: ps => (if g p < s.2 then [(s.1 ++ [40], p), ([41], -1)] else [(s.1, p)]) ++ pcs g ss ps
  | _, _ => []
def pieces (g : Int → Nat) (x : Xp) : List Pc := match formOf x.op with
  | none => [(leafTx x, -1)]
  | some f => if f.parts = [] then [(leafTx x, -1)] else pcs g f.parts (places x) ++ [(f.fin, -1)]
def pcT (t : Int → List UInt8) (c : Pc) : List UInt8 := c.1 ++ (if c.2 = -1 then [] else t c.2)
def pcsT (t : Int → List UInt8) (l : List Pc) : List UInt8 := (l.map (pcT t)).flatten
theorem pcsT_append (t : Int → List UInt8) (a b : List Pc) : pcsT t (a ++ b) = pcsT t a ++ pcsT t b := by
  unfold pcsT; rw [List.map_append, List.flatten_append]
theorem pcsT_cons (t : Int → List UInt8) (c : Pc) (b : List Pc) : pcsT t (c :: b) = pcT t c ++ pcsT t b := rfl
theorem pcs_tx (g : Int → Nat) (t : Int → List UInt8) : ∀ (ss : List (List UInt8 × Nat)) (ps : List Int), (∀ p ∈ ps.take ss.length, p ≠ -1) → pcsT t (pcs g ss ps) = partsTx g t ss ps
  | [], ps, _ => by cases ps <;> rfl
  | _ :: _, [], _ => rfl
  | s :: ss, p :: ps, h => by
    have hp : p ≠ -1 := h p (by simp)
    have ih := pcs_tx g t ss ps (fun q hq => h q (by simp only [List.length_cons, List.take_succ_cons]; exact List.mem_cons_of_mem _ hq))
    simp only [pcs, partsTx]
    rw [pcsT_append, ih]
    unfold heldB
    by_cases hr : g p < s.2
    · rw [if_pos hr, if_pos hr]
      simp [pcsT, pcT, hp]
    · rw [if_neg hr, if_neg hr]
      simp [pcsT, pcT, hp]
theorem leafTx_none {x : Xp} (h : formOf x.op = none) : leafTx x = [] := by
  unfold formOf at h
  unfold leafTx
  by_cases e : x.op = wholeS ∨ x.op = amountS ∨ x.op = rateS ∨ x.op = nameS
  · rw [if_pos e] at h; cases h
  · rw [if_neg (fun c => e (.inl c)), if_neg (fun c => e (.inr (.inl c))), if_neg (fun c => e (.inr (.inr (.inl c)))), if_neg (fun c => e (.inr (.inr (.inr c))))]
theorem pieces_tx {E : List Xp} (hE : Ahead E) {i : Nat} {x : Xp} (hx : E[i]? = some x) : pcsT (fun p => tx E p.toNat) (pieces (rkAt E) x) = tx E i := by
  rw [tx_node hE hx]
  unfold pieces nodeTx
  cases hf : formOf x.op with
  | none =>
    simp only [pcsT, pcT, List.map_cons, List.map_nil, List.flatten_cons, List.flatten_nil, List.append_nil]
    rw [leafTx_none hf]; rfl
  | some f =>
    simp only []
    by_cases h0 : f.parts = []
    · rw [if_pos h0, if_pos h0]
      simp [pcsT, pcT]
    · rw [if_neg h0, if_neg h0, pcsT_append, pcs_tx _ _ _ _ (fun p hp => by have := (hE i x f hx hf p hp).1; omega)]
      simp [pcsT, pcT]
theorem pcs_at {g : Int → Nat} : ∀ (ss : List (List UInt8 × Nat)) (ps : List Int), ∀ c ∈ pcs g ss ps, c.2 = -1 ∨ c.2 ∈ ps.take ss.length
  | [], ps, c, h => by cases ps <;> cases h
  | _ :: _, [], c, h => by cases h
  | s :: ss, p :: ps, c, h => by
    simp only [pcs, List.mem_append] at h
    rcases h with h | h
    · by_cases hr : g p < s.2
      · rw [if_pos hr] at h
        simp only [List.mem_cons, List.not_mem_nil, or_false] at h
        rcases h with rfl | rfl
        · exact .inr (by simp)
        · exact .inl rfl
      · rw [if_neg hr] at h
        simp only [List.mem_cons, List.not_mem_nil, or_false] at h
        subst h
        exact .inr (by simp)
    · rcases pcs_at ss ps c h with h | h
      · exact .inl h
      · exact .inr (by simp only [List.length_cons, List.take_succ_cons]; exact List.mem_cons_of_mem _ h)
theorem pieces_at {g : Int → Nat} {x : Xp} {c : Pc} (h : c ∈ pieces g x) : c.2 = -1 ∨ ∃ f, formOf x.op = some f ∧ c.2 ∈ (places x).take f.parts.length := by
  unfold pieces at h
  cases hf : formOf x.op with
  | none =>
    rw [hf] at h
    simp only [List.mem_cons, List.not_mem_nil, or_false] at h
    subst h; exact .inl rfl
  | some f =>
    rw [hf] at h
    simp only [] at h
    by_cases h0 : f.parts = []
    · rw [if_pos h0] at h
      simp only [List.mem_cons, List.not_mem_nil, or_false] at h
      subst h; exact .inl rfl
    · rw [if_neg h0] at h
      rcases List.mem_append.1 h with h | h
      · rcases pcs_at _ _ c h with h | h
        · exact .inl h
        · exact .inr ⟨f, rfl, h⟩
      · simp only [List.mem_cons, List.not_mem_nil, or_false] at h
        subst h; exact .inl rfl
theorem pcs_len (g : Int → Nat) : ∀ (ss : List (List UInt8 × Nat)) (ps : List Int), (pcs g ss ps).length ≤ 2 * ss.length
  | [], ps => by cases ps <;> exact Nat.le_refl _
  | _ :: _, [] => Nat.zero_le _
  | s :: ss, p :: ps => by
    have ih := pcs_len g ss ps
    simp only [pcs, List.length_append, List.length_cons]
    split <;> simp <;> omega
theorem pieces_len (g : Int → Nat) (x : Xp) : (pieces g x).length ≤ 7 := by
  unfold pieces
  cases hf : formOf x.op with
  | none => simp
  | some f =>
    simp only []
    have h3 := form_few hf
    have h2 := pcs_len g f.parts (places x)
    split
    · simp
    · rw [List.length_append]; simp only [List.length_cons, List.length_nil]; omega
def cntF (E : List Xp) : Nat → Nat → Nat
  | 0, _ => 0
  | f + 1, i => match E[i]? with
    | none => 0
    | some x => ((pieces (rkAt E) x).map fun c => 1 + (if c.2 = -1 then 0 else cntF E f c.2.toNat)).sum
def cnt (E : List Xp) (i : Nat) : Nat := cntF E (i + 1) i
def cntP (E : List Xp) (l : List Pc) : Nat := (l.map fun c => 1 + (if c.2 = -1 then 0 else cnt E c.2.toNat)).sum
theorem cntF_eq {E : List Xp} (hE : Ahead E) : ∀ (i f : Nat), i + 1 ≤ f → cntF E f i = cnt E i := by
  intro i
  induction i using Nat.strongRecOn with
  | ind i ih =>
    intro f hf
    obtain ⟨g, rfl⟩ : ∃ g, f = g + 1 := ⟨f - 1, by omega⟩
    unfold cnt
    simp only [cntF]
    cases hx : E[i]? with
    | none => rfl
    | some x =>
      simp only []
      congr 1
      apply List.map_congr_left
      intro c hc
      rcases pieces_at hc with h | ⟨fm, hf2, hm⟩
      · rw [if_pos h, if_pos h]
      · obtain ⟨h1, h2⟩ := hE i x fm hx hf2 _ hm
        rw [ih c.2.toNat (by omega) g (by omega), ih c.2.toNat (by omega) i (by omega)]
theorem cnt_node {E : List Xp} (hE : Ahead E) {i : Nat} {x : Xp} (hx : E[i]? = some x) : cnt E i = cntP E (pieces (rkAt E) x) := by
  unfold cntP
  rw [show cnt E i = cntF E (i + 1) i from rfl]
  simp only [cntF]
  rw [hx]
  simp only []
  congr 1
  apply List.map_congr_left
  intro c hc
  rcases pieces_at hc with h | ⟨fm, hf2, hm⟩
  · rw [if_pos h, if_pos h]
  · obtain ⟨h1, h2⟩ := hE i x fm hx hf2 _ hm
    rw [cntF_eq hE c.2.toNat i (by omega)]
theorem cntP_append (E : List Xp) (a b : List Pc) : cntP E (a ++ b) = cntP E a + cntP E b := by
  unfold cntP; rw [List.map_append, List.sum_append]
theorem cntP_rev (E : List Xp) (a : List Pc) : cntP E a.reverse = cntP E a := by
  induction a with
  | nil => rfl
  | cons c a ih => rw [List.reverse_cons, cntP_append, ih, Nat.add_comm, ← cntP_append]; rfl
theorem step_tx {E : List Xp} (hE : Ahead E) {s : List UInt8} {i : Nat} {x : Xp} (hx : E[i]? = some x) (l : List Pc) : pcsT (fun p => tx E p.toNat) ((s, (i : Int)) :: l) = s ++ pcsT (fun p => tx E p.toNat) (pieces (rkAt E) x ++ l) := by
  rw [pcsT_cons, pcsT_append, pieces_tx hE hx]
  unfold pcT
  rw [if_neg (show ¬ ((i : Int) = -1) by omega)]
  simp
theorem step_tx0 (t : Int → List UInt8) (s : List UInt8) (l : List Pc) : pcsT t ((s, -1) :: l) = s ++ pcsT t l := by
  rw [pcsT_cons]; unfold pcT; simp
theorem step_cnt {E : List Xp} (hE : Ahead E) {s : List UInt8} {i : Nat} {x : Xp} (hx : E[i]? = some x) (l : List Pc) : cntP E ((s, (i : Int)) :: l) = 1 + cntP E (pieces (rkAt E) x ++ l) := by
  rw [cntP_append, ← cnt_node hE hx, show ((s, (i : Int)) :: l : List Pc) = [(s, (i : Int))] ++ l from rfl, cntP_append]
  simp only [cntP, List.map_cons, List.map_nil, List.sum_cons, List.sum_nil]
  rw [if_neg (show ¬ ((i : Int) = -1) by omega)]
  simp only [Int.toNat_natCast]
  omega
theorem step_cnt0 (E : List Xp) (s : List UInt8) (l : List Pc) : cntP E ((s, -1) :: l) = 1 + cntP E l := by
  simp [cntP]
def onePc (g : Int → Nat) (s : List UInt8 × Nat) (p : Int) : List Pc := if g p < s.2 then [(s.1 ++ [40], p), ([41], -1)] else [(s.1, p)]
theorem pcs_take (g : Int → Nat) : ∀ (ss : List (List UInt8 × Nat)) (ps : List Int) (t : Nat) (s : List UInt8 × Nat) (p : Int), ss[t]? = some s → ps[t]? = some p → pcs g (ss.take (t + 1)) ps = pcs g (ss.take t) ps ++ onePc g s p
  | [], _, t, s, p, h, _ => by cases h
  | _ :: _, [], t, s, p, _, h => by cases h
  | s0 :: ss, p0 :: ps, 0, s, p, h1, h2 => by
    cases h1; cases h2
    simp only [List.take_succ_cons, List.take_zero, pcs, onePc, List.nil_append]
    cases ps <;> exact List.append_nil _
  | s0 :: ss, p0 :: ps, t + 1, s, p, h1, h2 => by
    have ih := pcs_take g ss ps t s p (by simpa using h1) (by simpa using h2)
    rw [List.take_succ_cons, List.take_succ_cons]
    simp only [pcs]
    rw [ih, List.append_assoc]
theorem pcs_take_len (g : Int → Nat) (ss : List (List UInt8 × Nat)) (ps : List Int) {t : Nat} (h : t ≤ 3) : (pcs g (ss.take t) ps).length ≤ 6 := by
  have h1 := pcs_len g (ss.take t) ps
  have h2 : (ss.take t).length ≤ t := by rw [List.length_take]; omega
  omega
end PShow

set_option linter.unusedVariables false
namespace PLex
variable {K : List UInt8 → Nat}
end PLex
namespace PTree
open PLex (Tok Lone kindOf)
end PTree

set_option linter.unusedVariables false
namespace PShow
open PCheck (Xp wholeS amountS rateS nameS negS ifS)
open PTree (heldB txB rank Tr Ex Rl level Wf X0 opsL wt tkT φ2 Lo wt_cons wt_app wt_nil tok1 rulesT)
open PLex (Lone kindOf)

theorem ord_meas {E : List Xp} {f : Nat → Nat} {a : Xp → Nat} (hf : ∀ (i : Nat) (x : Xp) (m : Fm), E[i]? = some x → formOf x.op = some m → f i ≤ a x + (((places x).take m.parts.length).map fun p => f p.toNat).sum) :
    ∀ (xs : List Xp) (i : Nat) (free r : List Int) (c : Nat), (∀ (k : Nat) (x : Xp), xs[k]? = some x → E[i + k]? = some x) → ord xs i free = some r → (free.map fun p => f p.toNat).sum ≤ c →
    (r.map fun p => f p.toNat).sum ≤ c + (xs.map a).sum ∧ ∀ (k : Nat) (x : Xp), xs[k]? = some x → f (i + k) ≤ c + (xs.map a).sum
  | [], i, free, r, c, _, h, hc => by
    simp only [ord, Option.some.injEq] at h
    subst h; exact ⟨by simpa using hc, fun k x hx => by cases hx⟩
  | x :: xs, i, free, r, c, hX, h, hc => by
    simp only [ord] at h
    cases hfm : formOf x.op with
    | none => rw [hfm] at h; cases h
    | some m =>
      rw [hfm] at h
      simp only [] at h
      by_cases h1 : free.length < m.parts.length
      · rw [if_pos h1] at h; cases h
      rw [if_neg h1] at h
      by_cases h2 : free.drop (free.length - m.parts.length) ≠ (places x).take m.parts.length
      · rw [if_pos h2] at h; cases h
      rw [if_neg h2] at h
      have h2 := Classical.not_not.1 h2
      have hx : E[i]? = some x := hX 0 x rfl
      have hl := hf i x m hx hfm
      rw [← h2] at hl
      have hsplit : (free.map fun p => f p.toNat).sum = ((free.take (free.length - m.parts.length)).map fun p => f p.toNat).sum + ((free.drop (free.length - m.parts.length)).map fun p => f p.toNat).sum := by
        conv => lhs; rw [← List.take_append_drop (free.length - m.parts.length) free]
        rw [List.map_append, List.sum_append]
      obtain ⟨g1, g2⟩ := ord_meas hf xs (i + 1) _ r (c + a x) (fun k y hy => by rw [show i + 1 + k = i + (k + 1) by omega]; exact hX (k + 1) y hy) h (by
        rw [List.map_append, List.sum_append]
        simp only [List.map_cons, List.map_nil, List.sum_cons, List.sum_nil, Int.toNat_natCast]
        omega)
      simp only [List.map_cons, List.sum_cons]
      refine ⟨by omega, fun k y hy => ?_⟩
      cases k with
      | zero => rw [Nat.add_zero]; omega
      | succ k =>
        have := g2 k y (by simpa using hy)
        rw [show i + (k + 1) = i + 1 + k by omega]
        omega
theorem cntP_pcs (E : List Xp) (g : Int → Nat) : ∀ (ss : List (List UInt8 × Nat)) (ps : List Int), (∀ p ∈ ps.take ss.length, p ≠ -1) → cntP E (pcs g ss ps) ≤ 2 * ss.length + ((ps.take ss.length).map fun p => cnt E p.toNat).sum
  | [], ps, _ => by cases ps <;> simp [pcs, cntP]
  | _ :: _, [], _ => by simp [pcs, cntP]
  | s :: ss, p :: ps, h => by
    have hp : p ≠ -1 := h p (by simp)
    have ih := cntP_pcs E g ss ps (fun q hq => h q (by simp only [List.length_cons, List.take_succ_cons]; exact List.mem_cons_of_mem _ hq))
    simp only [pcs, List.length_cons, List.take_succ_cons, List.map_cons, List.sum_cons]
    rw [cntP_append]
    have h1 : cntP E (if g p < s.2 then [(s.1 ++ [40], p), ([41], -1)] else [(s.1, p)]) ≤ 2 + cnt E p.toNat := by
      split <;> simp [cntP, hp] <;> omega
    omega
theorem cnt_le {E : List Xp} (hE : Ahead E) (i : Nat) (x : Xp) (m : Fm) (hx : E[i]? = some x) (hm : formOf x.op = some m) : cnt E i ≤ 7 + (((places x).take m.parts.length).map fun p => cnt E p.toNat).sum := by
  rw [cnt_node hE hx]
  unfold pieces
  rw [hm]
  simp only []
  have h3 := form_few hm
  split
  · simp only [cntP, List.map_cons, List.map_nil, List.sum_cons, List.sum_nil, if_true]; omega
  · rw [cntP_append]
    have := cntP_pcs E (rkAt E) m.parts (places x) (fun p hp => by have := (hE i x m hx hm p hp).1; omega)
    simp only [cntP, List.map_cons, List.map_nil, List.sum_cons, List.sum_nil, if_true] at this ⊢
    omega
theorem sum_const (c : Nat) (l : List Xp) : (l.map fun _ => c).sum = c * l.length := by
  induction l with
  | nil => rfl
  | cons x l ih => simp only [List.map_cons, List.sum_cons, List.length_cons, ih, Nat.mul_succ]; omega
theorem ord_cnt {E : List Xp} {r : List Int} (h : ord E 0 [] = some r) {k : Nat} (hk : k < E.length) : cnt E k ≤ 7 * E.length := by
  have h2 := (ord_meas (f := cnt E) (a := fun _ => 7) (cnt_le (ord_all h).1) E 0 [] r 0 (fun k x hx => by rw [Nat.zero_add]; exact hx) h (by simp)).2 k E[k] (List.getElem?_eq_getElem hk)
  rw [sum_const, Nat.zero_add] at h2
  omega
theorem ord_tx {E : List Xp} {r : List Int} (h : ord E 0 [] = some r) : (r.map fun p => (tx E p.toNat).length).sum ≤ (E.map own).sum ∧ ∀ k, k < E.length → (tx E k).length ≤ (E.map own).sum := by
  have h2 := ord_meas (f := fun i => (tx E i).length) (a := own) (fun i x m hx hm => tx_len (ord_all h).1 hx hm) E 0 [] r 0 (fun k x hx => by rw [Nat.zero_add]; exact hx) h (by simp)
  refine ⟨by have := h2.1; omega, fun k hk => ?_⟩
  have := h2.2 k E[k] (List.getElem?_eq_getElem hk)
  simp only [Nat.zero_add] at this
  exact this
theorem sum_app (f : Xp → Nat) (a b : List Ex) : ((a ++ b).map fun x => f (exX x)).sum = (a.map fun x => f (exX x)).sum + (b.map fun x => f (exX x)).sum := by rw [List.map_append, List.sum_append]
theorem own_parts {x : Xp} {m : Fm} (h : formOf x.op = some m) (h0 : m.parts ≠ []) : own x = (m.parts.map fun s => s.1.length + 2).sum + m.fin.length := by
  unfold own; rw [h]; simp only []; rw [if_neg h0]
theorem own_op : ∀ op ∈ opsL, ∃ m, formOf op = some m ∧ m.parts ≠ [] ∧ (m.parts.map fun s => s.1.length + 2).sum + m.fin.length ≤ 3 * (op.length + 2) := by
  have h : ∀ op ∈ opsL, (match formOf op with | none => false | some m => decide (m.parts ≠ [] ∧ (m.parts.map fun s => s.1.length + 2).sum + m.fin.length ≤ 3 * (op.length + 2))) = true := by decide
  intro op ho
  have := h op ho
  cases hf : formOf op with
  | none => rw [hf] at this; cases this
  | some m => rw [hf] at this; exact ⟨m, rfl, of_decide_eq_true this⟩
theorem wt_held (r n : Nat) (ts : List PLex.Tok) : wt φ2 ts ≤ wt φ2 (PTree.heldT r n ts) := by
  unfold PTree.heldT
  split
  · rw [wt_cons, wt_app]; omega
  · exact Nat.le_refl _
theorem own_flat : ∀ (t : Tr) (o : Nat), Wf X0 t → ((t.flat o).map fun x => own (exX x)).sum ≤ 3 * wt φ2 (tkT X0 t)
  | .whole n, o, _ => by
    have e : own (exX ⟨[119, 104, 111, 108, 101], [], (n : Int), 0, 0, 0⟩) = (Go.Lib.decDigits n).length := by
      show (leafTx (exX ⟨wholeS, [], (n : Int), 0, 0, 0⟩)).length = _
      unfold leafTx exX
      simp only [if_true]
      rw [itoa_nat]
    simp only [Tr.flat, List.map_cons, List.map_nil, List.sum_cons, List.sum_nil, tkT, wt_cons, wt_nil, tok1, φ2, e]
    show (Go.Lib.decDigits n).length + 0 ≤ 3 * ((Go.Lib.decDigits n).length + 2 + 0)
    omega
  | .amount n, o, _ => by
    have e : own (exX ⟨[97, 109, 111, 117, 110, 116], [], n, 0, 0, 0⟩) ≤ (PMoney.text n).length := by
      show (if n.natAbs ≤ PMoney.MM then PMoney.text n else []).length ≤ _
      split <;> simp
    simp only [Tr.flat, List.map_cons, List.map_nil, List.sum_cons, List.sum_nil, tkT, wt_cons, wt_nil, tok1, φ2]
    show _ ≤ 3 * ((PMoney.text n).length + 2 + 0)
    omega
  | .rate n, o, _ => by
    have e : own (exX ⟨[114, 97, 116, 101], [], n, 0, 0, 0⟩) ≤ (PRate.text n).length := by
      show (if 0 ≤ n ∧ n ≤ 10000 then PRate.text n else []).length ≤ _
      split <;> simp
    simp only [Tr.flat, List.map_cons, List.map_nil, List.sum_cons, List.sum_nil, tkT, wt_cons, wt_nil, tok1, φ2]
    show _ ≤ 3 * ((PRate.text n).length + 2 + 0)
    omega
  | .name s, o, _ => by
    have e : own (exX ⟨[110, 97, 109, 101], s, 0, 0, 0, 0⟩) = s.length := rfl
    simp only [Tr.flat, List.map_cons, List.map_nil, List.sum_cons, List.sum_nil, tkT, wt_cons, wt_nil, tok1, φ2, e]
    omega
  | .neg a, o, h => by
    have ih := own_flat a o h
    have hw := wt_held (rank a) 3 (tkT X0 a)
    have e : ∀ p, own (exX ⟨[110, 101, 103], [], 0, p, 0, 0⟩) = 3 := fun _ => rfl
    have e1 : φ2 5 [45] = 3 := rfl
    simp only [Tr.flat]
    rw [sum_app]
    simp only [List.map_cons, List.map_nil, List.sum_cons, List.sum_nil, tkT, wt_cons, tok1, e, e1]
    omega
  | .bin op a b, o, h => by
    have iha := own_flat a o h.2.1
    have ihb := own_flat b (o + a.size) h.2.2
    obtain ⟨m, hm, hm0, hle⟩ := own_op op h.1
    have e : ∀ p q, own (exX ⟨op, [], 0, p, q, 0⟩) ≤ 3 * (op.length + 2) := fun p q => by rw [own_parts (x := exX ⟨op, [], 0, p, q, 0⟩) hm hm0]; exact hle
    have e0 := e (o + a.size - 1) (o + a.size + b.size - 1)
    have e1 : ∀ k, φ2 k op = op.length + 2 := fun _ => rfl
    have a1 := wt_held (rank a) 1 (tkT X0 a)
    have a2 := wt_held (rank a) 2 (tkT X0 a)
    have b1 := wt_held (rank b) 1 (tkT X0 b)
    have b2 := wt_held (rank b) 2 (tkT X0 b)
    have b3 := wt_held (rank b) 3 (tkT X0 b)
    simp only [Tr.flat]
    rw [sum_app, sum_app]
    simp only [List.map_cons, List.map_nil, List.sum_cons, List.sum_nil, tkT]
    (repeat' split) <;> simp only [wt_cons, wt_app, wt_nil, tok1, e1] <;> omega
  | .cond a b c, o, h => by
    have iha := own_flat a o h.1
    have ihb := own_flat b (o + a.size) h.2.1
    have ihc := own_flat c (o + a.size + b.size) h.2.2
    have e : ∀ p q r, own (exX ⟨[105, 102], [], 0, p, q, r⟩) = 21 := fun _ _ _ => rfl
    have e1 : φ2 1 [105, 102] = 4 := rfl
    have e2 : φ2 1 [116, 104, 101, 110] = 6 := rfl
    have e3 : φ2 1 [101, 108, 115, 101] = 6 := rfl
    simp only [Tr.flat]
    rw [sum_app, sum_app, sum_app]
    simp only [List.map_cons, List.map_nil, List.sum_cons, List.sum_nil, tkT, wt_cons, wt_app, tok1, e, e1, e2, e3]
    omega
theorem vals_flat : ∀ (t : Tr) (o : Nat), Wf X0 t → Lo (tkT X0 t) → ∀ x ∈ t.flat o, (-9223372036854775807 ≤ x.value ∧ x.value ≤ 9223372036854775807) ∧ x.name.length ≤ own (exX x)
  | .whole n, o, h, hl, x, hx => by
    rw [List.mem_singleton.1 hx]
    have h1 := (PTree.lo_cons.1 hl).1
    have h2 := PTree.num_small (Lone.whole h1)
    have h3 : PTree.numOf (Go.Lib.decDigits n) = n := PTree.numOf_dec n
    have h4 : PTree.numOf (Go.Lib.decDigits n) ≤ 999999999 := h2
    rw [h3] at h4
    exact ⟨⟨by show _ ≤ (n : Int); omega, by show (n : Int) ≤ _; omega⟩, Nat.zero_le _⟩
  | .amount n, o, h, hl, x, hx => by
    rw [List.mem_singleton.1 hx]
    have h1 := amount_in h
    unfold PMoney.MM at h1
    exact ⟨⟨by show _ ≤ n; omega, by show n ≤ _; omega⟩, Nat.zero_le _⟩
  | .rate n, o, h, hl, x, hx => by
    rw [List.mem_singleton.1 hx]
    have h1 := rate_in h
    exact ⟨⟨by show _ ≤ n; omega, by show n ≤ _; omega⟩, Nat.zero_le _⟩
  | .name s, o, h, hl, x, hx => by
    rw [List.mem_singleton.1 hx]
    exact ⟨⟨by show (-9223372036854775807 : Int) ≤ 0; decide, by show (0 : Int) ≤ 9223372036854775807; decide⟩, Nat.le_refl _⟩
  | .neg a, o, h, hl, x, hx => by
    rcases List.mem_append.1 hx with hx | hx
    · exact vals_flat a o h (PTree.lo_held' (PTree.lo_cons.1 hl).2) x hx
    · rw [List.mem_singleton.1 hx]; exact ⟨⟨by show (-9223372036854775807 : Int) ≤ 0; decide, by show (0 : Int) ≤ 9223372036854775807; decide⟩, Nat.zero_le _⟩
  | .bin op a b, o, h, hl, x, hx => by
    have hab : Lo (tkT X0 a) ∧ Lo (tkT X0 b) := by
      simp only [tkT] at hl
      (repeat' split at hl)
      · obtain ⟨g1, g2⟩ := PTree.lo_app.1 hl
        exact ⟨PTree.lo_held' g1, PTree.lo_held' (PTree.lo_cons.1 g2).2⟩
      · obtain ⟨g1, g2⟩ := PTree.lo_app.1 hl
        exact ⟨PTree.lo_held' g1, PTree.lo_held' (PTree.lo_cons.1 g2).2⟩
      · obtain ⟨g1, g2⟩ := PTree.lo_app.1 hl
        exact ⟨PTree.lo_held' g1, PTree.lo_held' (PTree.lo_cons.1 g2).2⟩
      · obtain ⟨g1, g2⟩ := PTree.lo_app.1 (PTree.lo_cons.1 (PTree.lo_cons.1 hl).2).2
        exact ⟨g1, (PTree.lo_app.1 (PTree.lo_cons.1 g2).2).1⟩
    rcases List.mem_append.1 hx with hx | hx
    · rcases List.mem_append.1 hx with hx | hx
      · exact vals_flat a o h.2.1 hab.1 x hx
      · exact vals_flat b _ h.2.2 hab.2 x hx
    · rw [List.mem_singleton.1 hx]; exact ⟨⟨by show (-9223372036854775807 : Int) ≤ 0; decide, by show (0 : Int) ≤ 9223372036854775807; decide⟩, Nat.zero_le _⟩
  | .cond a b c, o, h, hl, x, hx => by
    obtain ⟨g1, g2⟩ := PTree.lo_app.1 (PTree.lo_cons.1 hl).2
    obtain ⟨g3, g4⟩ := PTree.lo_app.1 (PTree.lo_cons.1 g2).2
    rcases List.mem_append.1 hx with hx | hx
    · rcases List.mem_append.1 hx with hx | hx
      · rcases List.mem_append.1 hx with hx | hx
        · exact vals_flat a o h.1 g1 x hx
        · exact vals_flat b _ h.2.1 g3 x hx
      · exact vals_flat c _ h.2.2 (PTree.lo_cons.1 g4).2 x hx
    · rw [List.mem_singleton.1 hx]; exact ⟨⟨by show (-9223372036854775807 : Int) ≤ 0; decide, by show (0 : Int) ≤ 9223372036854775807; decide⟩, Nat.zero_le _⟩
theorem own_rules : ∀ (rs : List Rl) (o : Nat), (∀ r ∈ rs, Wf X0 r.tree) → ((PTree.exprsOf o rs).map fun x => own (exX x)).sum + (rs.map fun r => r.kind.length + r.name.length + 6).sum ≤ 3 * wt φ2 (rulesT rs)
  | [], _, _ => Nat.le_refl _
  | r :: rs, o, h => by
    have h1 := own_flat r.tree o (h r (List.mem_cons_self ..))
    have h2 := own_rules rs (o + r.tree.size) (fun x hx => h x (List.mem_cons_of_mem _ hx))
    have e3 : ∀ k s, φ2 k s = s.length + 2 := fun _ _ => rfl
    have e1 : φ2 5 [61] = 3 := rfl
    have e2 : φ2 5 [59] = 3 := rfl
    simp only [PTree.exprsOf, rulesT]
    rw [sum_app]
    simp only [List.map_cons, List.sum_cons, wt_cons, wt_app, tok1, e1, e2]
    rw [e3, e3]
    omega
theorem vals_rules : ∀ (rs : List Rl) (o : Nat), (∀ r ∈ rs, Wf X0 r.tree) → Lo (rulesT rs) → ∀ x ∈ PTree.exprsOf o rs, (-9223372036854775807 ≤ x.value ∧ x.value ≤ 9223372036854775807) ∧ x.name.length ≤ own (exX x)
  | [], _, _, _, x, hx => by cases hx
  | r :: rs, o, h, hl, x, hx => by
    obtain ⟨g1, g2⟩ := PTree.lo_app.1 (PTree.lo_cons.1 (PTree.lo_cons.1 (PTree.lo_cons.1 hl).2).2).2
    rcases List.mem_append.1 hx with hx | hx
    · exact vals_flat r.tree o (h r (List.mem_cons_self ..)) g1 x hx
    · exact vals_rules rs _ (fun y hy => h y (List.mem_cons_of_mem _ hy)) (PTree.lo_cons.1 g2).2 x hx
theorem wt_three {ts : List PLex.Tok} (h : ∀ t ∈ ts, Lone kindOf t.kind t.text) : wt φ2 ts ≤ 3 * (ts.map fun t => t.text.length).sum := by
  induction ts with
  | nil => exact Nat.le_refl _
  | cons t ts ih =>
    obtain ⟨c, r, e, _⟩ := h t (List.mem_cons_self ..)
    have h1 : 1 ≤ t.text.length := by rw [e]; simp
    have ih := ih (fun x hx => h x (List.mem_cons_of_mem _ hx))
    have e3 : ∀ k s, φ2 k s = s.length + 2 := fun _ _ => rfl
    rw [wt_cons, e3]
    simp only [List.map_cons, List.sum_cons]
    omega
structure Got (s : List UInt8) (rs : List Rl) : Prop where
  wf : ∀ r ∈ rs, PTree.RWf r
  lo : Lo (rulesT rs)
  few : rs.length ≤ 60
  own : ((PTree.exprsOf 0 rs).map fun x => own (exX x)).sum + (rs.map fun r => r.kind.length + r.name.length + 6).sum ≤ 9 * s.length
  len : (PTree.textB rs).length ≤ 3 * s.length
  vals : ∀ x ∈ PTree.exprsOf 0 rs, (-9223372036854775807 ≤ x.value ∧ x.value ≤ 9223372036854775807) ∧ x.name.length ≤ PShow.own (exX x)
theorem got {s : List UInt8} {t : List PLex.Tok} {rs : List Rl} (h : PTree.parse s = some (.ok t rs)) : Got s rs := by
  obtain ⟨_, h1, h2, h3⟩ := PTree.parse_wt (φ := φ2) (fun _ => rfl) h
  have hw := PTree.parse_wf h
  have hww : ∀ r ∈ rs, Wf X0 r.tree := fun r hr => (hw r hr).2.2.2.1
  have hl := PLex.all_lone (K := kindOf) s.length 0 s (Nat.le_refl _)
  have hs := PLex.all_sum (K := kindOf) s.length 0 s (Nat.le_refl _)
  have h4 := wt_three hl
  have h5 := own_rules rs 0 hww
  have h6 := PTree.textB_len rs
  exact ⟨hw, h2, h3, by omega, by omega, vals_rules rs 0 hww h2⟩
end PShow
