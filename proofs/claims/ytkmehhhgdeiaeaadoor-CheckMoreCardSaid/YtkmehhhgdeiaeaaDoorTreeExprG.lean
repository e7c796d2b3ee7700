/-
  What the landed reader answers: expressions, sums, products and factors, by what reads their parts.
-/
import Derived.Test.YtkmehhhgdeiaeaaDoorTreeFormG
namespace PTree
open PLex (Tok)
theorem next_assoc' {α β γ : Type} (x : Option (R α)) (f : List Tok → α → Option (R β)) (g : List Tok → β → Option (R γ)) : R.next (R.next x f) g = R.next x fun ts a => R.next (f ts a) g := by
  cases x with
  | none => rfl
  | some r => cases r <;> rfl
theorem next_ok' {α β : Type} {x : Option (R α)} {k : List Tok → α → Option (R β)} {ts : List Tok} {b : β} (h : R.next x k = some (.ok ts b)) : ∃ t1 a, x = some (.ok t1 a) ∧ k t1 a = some (.ok ts b) := by
  cases x with
  | none => cases h
  | some r =>
    cases r with
    | bad e p => cases h
    | ok t1 a => exact ⟨t1, a, rfl, h⟩
theorem next_one {α β : Type} (ts : List Tok) (a : α) (k : List Tok → α → Option (R β)) : R.next (some (.ok ts a)) k = k ts a := rfl
theorem partsA_len {en d : Nat} : ∀ {ws : List (List UInt8)} {acc : List Tr} {ts t : List Tok} {l : List Tr}, partsA en d ws acc ts = some (.ok t l) → l.length = acc.length + ws.length
  | [], acc, ts, t, l, h => by cases h; rfl
  | s :: r, acc, ts, t, l, h => by
    simp only [partsA] at h
    obtain ⟨t1, _, _, h1⟩ := next_ok' h
    obtain ⟨t2, _, _, h2⟩ := next_ok' h1
    have := partsA_len h2
    rw [List.length_append] at this
    simp only [List.length_cons, List.length_nil] at this ⊢; omega
def ifW : List (List UInt8) := [[105, 102], [116, 104, 101, 110], [101, 108, 115, 101]]
def minW : List (List UInt8) := [[40], [44]]
def cond3 (l : List Tr) : Tr := .cond (l.getD 0 (.whole 0)) (l.getD 1 (.whole 0)) (l.getD 2 (.whole 0))
def bin2 (op : List UInt8) (l : List Tr) : Tr := .bin op (l.getD 0 (.whole 0)) (l.getD 1 (.whole 0))
theorem ex_deep {en d : Nat} {ts : List Tok} (h : 20 < d) : ex en .whole d ts = some (.bad 9 (placeOf en ts)) := by rw [ex_eq]; simp only [body]; rw [if_pos h]
theorem ex_if {en d : Nat} {ts : List Tok} (h : d ≤ 20) (ht : textOf ts = [105, 102]) : ex en .whole d ts = R.next (partsA en d ifW [] ts) fun t l => some (.ok t (cond3 l)) := by
  rw [ex_eq]
  simp only [body]
  rw [if_neg (by omega), if_pos ht]
  have hm : must en [105, 102] ts = some (.ok ts.tail ()) := by unfold must; rw [if_pos ht]
  simp only [partsA, ifW, hm, next_assoc', next_one]
  rfl
theorem ex_chain0 {en d : Nat} {ts : List Tok} (h : d ≤ 20) (ht : textOf ts ≠ [105, 102]) : ex en .whole d ts = R.next (ex en (.chain 1) d ts) fun t1 a => ex en (.more 0 a) d t1 := by
  rw [ex_eq]
  simp only [body]
  rw [if_neg (by omega), if_neg ht, ex_eq]
  rfl
theorem ex_chain1 (en d : Nat) (ts : List Tok) : ex en (.chain 1) d ts = R.next (ex en (.chain 2) d ts) fun t1 a => ex en (.more 1 a) d t1 := by rw [ex_eq]; rfl
theorem ex_chain2 (en d : Nat) (ts : List Tok) : ex en (.chain 2) d ts = R.next (ex en .factor d ts) fun t1 a => ex en (.more 2 a) d t1 := by
  rw [ex_eq]
  show (R.next (ex en (.chain 3) d ts) fun t1 a => ex en (.more 2 a) d t1) = _
  rw [ex_eq (m := .chain 3)]; rfl
theorem ex_chain3 (en d : Nat) (ts : List Tok) : ex en (.chain 3) d ts = ex en .factor d ts := by rw [ex_eq]; rfl
theorem more_no {en n d : Nat} {a : Tr} {ts : List Tok} (h : textOf ts ∉ level n) : ex en (.more n a) d ts = some (.ok ts a) := by rw [ex_eq]; simp only [body]; rw [if_neg h]
theorem more_yes {en n d : Nat} {a : Tr} {ts : List Tok} (h : textOf ts ∈ level (n + 1)) : ex en (.more (n + 1) a) d ts = R.next (ex en (.chain (n + 2)) d ts.tail) fun t1 b => ex en (.more (n + 1) (.bin (textOf ts) a b)) d t1 := by
  rw [ex_eq]; simp only [body]; rw [if_pos h]; simp
theorem more_first {en d : Nat} {a : Tr} {ts : List Tok} (h : textOf ts ∈ level 0) : ex en (.more 0 a) d ts = R.next (ex en (.chain 1) d ts.tail) fun t1 b => some (.ok t1 (.bin (textOf ts) a b)) := by
  rw [ex_eq]; simp only [body]; rw [if_pos h]; simp
theorem ex_fdeep {en d : Nat} {ts : List Tok} (h : 20 < d) : ex en .factor d ts = some (.bad 9 (placeOf en ts)) := by rw [ex_eq]; simp only [body]; rw [if_pos h]
theorem ex_neg {en d : Nat} {ts : List Tok} (h : d ≤ 20) (ht : textOf ts = [45]) : ex en .factor d ts = R.next (ex en .factor (d + 1) ts.tail) fun t1 a => some (.ok t1 (.neg a)) := by
  rw [ex_eq]; simp only [body]; rw [if_neg (by omega), if_pos ht]
theorem ex_par {en d : Nat} {ts : List Tok} (h : d ≤ 20) (ht : textOf ts = [40]) : ex en .factor d ts = R.next (ex en .whole (d + 1) ts.tail) fun t1 a => R.next (must en [41] t1) fun t2 _ => some (.ok t2 a) := by
  rw [ex_eq]; simp only [body]; rw [if_neg (by omega), if_neg (by rw [ht]; decide), if_pos ht]
theorem ex_min {en d : Nat} {ts : List Tok} (h : d ≤ 20) (ht : textOf ts = [109, 105, 110] ∨ textOf ts = [109, 97, 120]) : ex en .factor d ts = R.next (R.next (partsA en d minW [] ts.tail) fun t l => some (.ok t (bin2 (textOf ts) l))) fun t1 a => R.next (must en [41] t1) fun t2 _ => some (.ok t2 a) := by
  rw [ex_eq]
  simp only [body]
  rw [if_neg (by omega), if_neg (by rcases ht with ht | ht <;> rw [ht] <;> decide), if_neg (by rcases ht with ht | ht <;> rw [ht] <;> decide), if_pos ht]
  simp only [partsA, minW, next_assoc', next_one]
  rfl
theorem ex_leaf {en d j : Nat} {ls : List Tok} (h : d ≤ 20) (h1 : textOf (ls.drop j) ≠ [45]) (h2 : textOf (ls.drop j) ≠ [40]) (h3 : textOf (ls.drop j) ≠ [109, 105, 110]) (h4 : textOf (ls.drop j) ≠ [109, 97, 120]) : ex en .factor d (ls.drop j) = match ls[j]? with
  | none => some (.bad 2 en)
  | some t => match leaf t with
    | none => some (.bad 2 t.at_)
    | some x => some (.ok (ls.drop (j + 1)) x) := by
  rw [ex_eq]
  simp only [body]
  rw [if_neg (by omega), if_neg h1, if_neg h2, if_neg (fun h => h.elim h3 h4)]
  by_cases hj : j < ls.length
  · rw [List.drop_eq_getElem_cons hj, List.getElem?_eq_getElem hj]; rfl
  · rw [List.drop_of_length_le (by omega), List.getElem?_eq_none (by omega)]
theorem lvl_wd {n : Nat} {u : List UInt8} (h : u ∈ level n) : Wd u := by
  match n, h with
  | 0, h =>
    simp only [level, List.mem_cons, List.not_mem_nil, or_false] at h
    rcases h with rfl | rfl | rfl | rfl | rfl | rfl <;> exact ⟨_, _, rfl, rfl⟩
  | 1, h =>
    simp only [level, List.mem_cons, List.not_mem_nil, or_false] at h
    rcases h with rfl | rfl <;> exact ⟨_, _, rfl, rfl⟩
  | n + 2, h =>
    simp only [level, List.mem_cons, List.not_mem_nil, or_false] at h
    subst h; exact ⟨_, _, rfl, rfl⟩
theorem lvl_tx {ls : List Tok} (ht : Toks ls) {n j : Nat} (h : tx ls j ∈ level n) : textOf (ls.drop j) = tx ls j := (textOf_tx ht j (lvl_wd h)).2 rfl
theorem lvl_tx' {ls : List Tok} (ht : Toks ls) {n j : Nat} (h : tx ls j ∉ level n) : textOf (ls.drop j) ∉ level n := fun k => h (by rw [(textOf_tx ht j (lvl_wd k)).1 rfl]; exact k)
end PTree
namespace Go.Proofs.YtkmehhhgdeiaeaaDoor
open Go.RowKit
open PTree (R Ex Tr Md tx kd pl partsA flatL sizeL pos3)
variable {c : Rc} {w w' : World} {j : Nat} {xs : List Ex}

def SumC (c : Rc) (N : Nat) : Prop := ∀ (d j : Nat) (xs : List Ex) (w : World), 10 * (c.ls.length - j) + 7 < N → d ≤ 21 → Rd c w j xs → xs.length + (c.ls.length - j) ≤ 5000 →
  Calls Tryd.prog 52 #[c.p, .int .i64 d] w (RAns c xs (PTree.ex c.en (.chain 1) d (c.ls.drop j)) w)
def ProdC (c : Rc) (N : Nat) : Prop := ∀ (d j : Nat) (xs : List Ex) (w : World), 10 * (c.ls.length - j) + 6 < N → d ≤ 21 → Rd c w j xs → xs.length + (c.ls.length - j) ≤ 5000 →
  Calls Tryd.prog 63 #[c.p, .int .i64 d] w (RAns c xs (PTree.ex c.en (.chain 2) d (c.ls.drop j)) w)
def FactC (c : Rc) (N : Nat) : Prop := ∀ (d j : Nat) (xs : List Ex) (w : World), 10 * (c.ls.length - j) + 4 < N → d ≤ 21 → Rd c w j xs → xs.length + (c.ls.length - j) ≤ 5000 →
  Calls Tryd.prog 67 #[c.p, .int .i64 d] w (RAns c xs (PTree.ex c.en .factor d (c.ls.drop j)) w)
theorem ent_sum (args : Array Value) (w : World) : (callFunc 52 args).run Tryd.prog w = .ok (.enter 52 args) w := run_fn Tryd.func52 (by kernel_rfl) (by kernel_rfl) args w
theorem ent_prod (args : Array Value) (w : World) : (callFunc 63 args).run Tryd.prog w = .ok (.enter 63 args) w := run_fn Tryd.func63 (by kernel_rfl) (by kernel_rfl) args w
theorem ent_fact (args : Array Value) (w : World) : (callFunc 67 args).run Tryd.prog w = .ok (.enter 67 args) w := run_fn Tryd.func67 (by kernel_rfl) (by kernel_rfl) args w
/-- A row of parts is a tree's. -/
theorem fans_any {u : List UInt8} {r : Option (R (List Tr))} {g : List Tr → Tr} {e : Ending} (h : FAns c xs u r w e w') (hg : ∀ ts l, r = some (.ok ts l) → (g l).flat xs.length = flatL l xs.length ++ [⟨u, [], 0, pos3 l xs.length 0, pos3 l xs.length 1, pos3 l xs.length 2⟩] ∧ (g l).size = sizeL l + 1) : RAns c xs (R.next r fun t l => some (.ok t (g l))) w e w' := by
  obtain ⟨a, er, j, ys, he, hb, hk, hR, hm⟩ := h
  refine ⟨a, er, he, ⟨j, ys, hR, ?_⟩, hb, hk⟩
  cases r with
  | none => exact hm.elim
  | some r =>
    cases r with
    | bad e q => exact hm
    | ok ts l =>
      obtain ⟨g1, g2⟩ := hg _ _ rfl
      obtain ⟨m1, m2, m3, m4⟩ := hm
      refine ⟨m1, m2, ?_, ?_⟩
      · rw [m3, g1, List.append_assoc]
      · rw [m4, g2]; omega
theorem cond_row {l : List Tr} (h : l.length = 3) (o : Nat) : (PTree.cond3 l).flat o = flatL l o ++ [⟨[105, 102], [], 0, pos3 l o 0, pos3 l o 1, pos3 l o 2⟩] ∧ (PTree.cond3 l).size = sizeL l + 1 := by
  match l, h with
  | [a, b, c], _ => simp [PTree.cond3, Tr.flat, flatL, pos3, PTree.posL, sizeL, Tr.size]; omega
theorem bin_row {l : List Tr} {u : List UInt8} (h : l.length = 2) (o : Nat) : (PTree.bin2 u l).flat o = flatL l o ++ [⟨u, [], 0, pos3 l o 0, pos3 l o 1, pos3 l o 2⟩] ∧ (PTree.bin2 u l).size = sizeL l + 1 := by
  match l, h with
  | [a, b], _ => simp [PTree.bin2, Tr.flat, flatL, pos3, PTree.posL, sizeL, Tr.size]
end Go.Proofs.YtkmehhhgdeiaeaaDoor
