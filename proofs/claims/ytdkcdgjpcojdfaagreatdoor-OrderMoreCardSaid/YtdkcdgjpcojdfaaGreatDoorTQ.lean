/-
  Each row of a program's expressions but the roots is a part of just one, that stands behind it.
  tree.Parse of a text that is known: the program's rows, or the error.
-/
import Derived.Test.YtdkcdgjpcojdfaaGreatDoorTreeParseG

namespace PTree
open PLex (Tok)
/-- The signs of two parts. -/
def opsL : List (List UInt8) := [[43], [45], [42], [60], [60, 61], [61], [60, 62], [62], [62, 61], [109, 105, 110], [109, 97, 120]]
def Tr.ops : Tr → Prop
  | .neg a => a.ops
  | .bin op a b => op ∈ opsL ∧ a.ops ∧ b.ops
  | .cond a b c => a.ops ∧ b.ops ∧ c.ops
  | _ => True
def partsOf (x : Ex) : List Nat := if x.op = [110, 101, 103] then [x.a] else if x.op ∈ opsL then [x.a, x.b] else if x.op = [105, 102] then [x.a, x.b, x.c] else []
theorem parts_neg (a b c : Nat) (s : List UInt8) (v : Int) : partsOf ⟨[110, 101, 103], s, v, a, b, c⟩ = [a] := rfl
theorem parts_bin {op : List UInt8} (h : op ∈ opsL) (a b c : Nat) (s : List UInt8) (v : Int) : partsOf ⟨op, s, v, a, b, c⟩ = [a, b] := by
  unfold partsOf
  rw [if_neg (by rintro h2; have h2 : op = [110, 101, 103] := h2; rw [h2] at h; revert h; decide), if_pos h]
theorem parts_if (a b c : Nat) (s : List UInt8) (v : Int) : partsOf ⟨[105, 102], s, v, a, b, c⟩ = [a, b, c] := rfl
theorem range_snoc (o n : Nat) : List.range' o n ++ [o + n] = List.range' o (n + 1) := by rw [List.range'_concat]; simp
theorem range_join (o n m : Nat) : List.range' o n ++ List.range' (o + n) m = List.range' o (n + m) := by
  have := List.range'_append (s := o) (m := n) (n := m) (step := 1)
  rw [Nat.one_mul] at this; exact this
/-- Behind the rows of a tree, its root told: each of its places once. -/
theorem flat_parts : ∀ (t : Tr), t.ops → ∀ o, ((t.flat o).flatMap partsOf ++ [o + t.size - 1]).Perm (List.range' o t.size)
  | .whole n, _, o => by simp [Tr.flat, Tr.size, partsOf, opsL]
  | .amount n, _, o => by simp [Tr.flat, Tr.size, partsOf, opsL]
  | .rate n, _, o => by simp [Tr.flat, Tr.size, partsOf, opsL]
  | .name s, _, o => by simp [Tr.flat, Tr.size, partsOf, opsL]
  | .neg a, h, o => by
    have ha := flat_parts a h o
    have p := a.size_pos
    simp only [Tr.flat, Tr.size, List.flatMap_append, List.flatMap_cons, List.flatMap_nil, List.append_nil, parts_neg]
    rw [show o + (a.size + 1) - 1 = o + a.size from rfl, ← range_snoc]
    exact ha.append_right _
  | .bin op a b, h, o => by
    have ha := flat_parts a h.2.1 o
    have hb := flat_parts b h.2.2 (o + a.size)
    have p := a.size_pos
    have q := b.size_pos
    simp only [Tr.flat, Tr.size, List.flatMap_append, List.flatMap_cons, List.flatMap_nil, List.append_nil, parts_bin h.1]
    rw [show o + (a.size + b.size + 1) - 1 = o + (a.size + b.size) from rfl, ← range_snoc, ← range_join]
    refine List.Perm.append_right _ (List.Perm.trans ?_ (ha.append hb))
    generalize (a.flat o).flatMap partsOf = A
    generalize (b.flat (o + a.size)).flatMap partsOf = B
    generalize o + a.size - 1 = x
    generalize o + a.size + b.size - 1 = y
    rw [List.perm_iff_count]
    intro z
    simp only [List.count_append, List.count_cons, List.count_nil]
    omega
  | .cond a b c, h, o => by
    have ha := flat_parts a h.1 o
    have hb := flat_parts b h.2.1 (o + a.size)
    have hc := flat_parts c h.2.2 (o + a.size + b.size)
    rw [Nat.add_assoc o a.size b.size] at hc
    simp only [Tr.flat, Tr.size, List.flatMap_append, List.flatMap_cons, List.flatMap_nil, List.append_nil, parts_if]
    rw [show o + (a.size + b.size + c.size + 1) - 1 = o + (a.size + b.size + c.size) from rfl, ← range_snoc, ← range_join, ← range_join]
    rw [Nat.add_assoc o a.size b.size]
    refine List.Perm.append_right _ (List.Perm.trans ?_ ((ha.append hb).append hc))
    generalize (a.flat o).flatMap partsOf = A
    generalize (b.flat (o + a.size)).flatMap partsOf = B
    generalize (c.flat (o + (a.size + b.size))).flatMap partsOf = C
    generalize o + a.size - 1 = x
    rw [Nat.add_assoc o a.size b.size]
    generalize o + (a.size + b.size) - 1 = y
    generalize o + (a.size + b.size) + c.size - 1 = u
    rw [List.perm_iff_count]
    intro z
    simp only [List.count_append, List.count_cons, List.count_nil]
    omega
/-- A part stands ahead. -/
def Ahead (o : Nat) (l : List Ex) : Prop := ∀ i x, l[i]? = some x → ∀ p ∈ partsOf x, p < o + i
theorem ahead_nil (o : Nat) : Ahead o [] := fun i x h => by simp at h
theorem Ahead.join {o : Nat} {l k : List Ex} (h : Ahead o l) (h2 : Ahead (o + l.length) k) : Ahead o (l ++ k) := fun i x hx p hp => by
  by_cases hi : i < l.length
  · rw [List.getElem?_append_left hi] at hx; exact h i x hx p hp
  · rw [List.getElem?_append_right (by omega)] at hx
    have := h2 _ x hx p hp; omega
theorem ahead_one {o : Nat} {x : Ex} (h : ∀ p ∈ partsOf x, p < o) : Ahead o [x] := fun i y hy p hp => by
  cases i with
  | zero => cases hy; exact h p hp
  | succ i => simp at hy
theorem flat_ahead : ∀ (t : Tr), t.ops → ∀ o, Ahead o (t.flat o)
  | .whole n, _, o => ahead_one (fun p hp => by simp [partsOf, opsL] at hp)
  | .amount n, _, o => ahead_one (fun p hp => by simp [partsOf, opsL] at hp)
  | .rate n, _, o => ahead_one (fun p hp => by simp [partsOf, opsL] at hp)
  | .name s, _, o => ahead_one (fun p hp => by simp [partsOf, opsL] at hp)
  | .neg a, h, o => by
    have p := a.size_pos
    refine (flat_ahead a h o).join ?_
    rw [Tr.flat_len]
    exact ahead_one (fun q hq => by rw [parts_neg] at hq; simp at hq; omega)
  | .bin op a b, h, o => by
    have p := a.size_pos
    have q := b.size_pos
    refine ((flat_ahead a h.2.1 o).join ?_).join ?_
    · rw [Tr.flat_len]; exact flat_ahead b h.2.2 _
    · rw [List.length_append, Tr.flat_len, Tr.flat_len]
      exact ahead_one (fun r hr => by rw [parts_bin h.1] at hr; simp at hr; omega)
  | .cond a b c, h, o => by
    have p := a.size_pos
    have q := b.size_pos
    have s := c.size_pos
    refine (((flat_ahead a h.1 o).join ?_).join ?_).join ?_
    · rw [Tr.flat_len]; exact flat_ahead b h.2.1 _
    · rw [List.length_append, Tr.flat_len, Tr.flat_len, ← Nat.add_assoc]; exact flat_ahead c h.2.2 _
    · rw [List.length_append, List.length_append, Tr.flat_len, Tr.flat_len, Tr.flat_len]
      exact ahead_one (fun r hr => by rw [parts_if] at hr; simp at hr; omega)
/-- All rules. -/
theorem rules_parts : ∀ (rs : List Rl), (∀ r ∈ rs, r.tree.ops) → ∀ o, ((exprsOf o rs).flatMap partsOf ++ (rowsOf o rs).map (·.root)).Perm (List.range' o (sizeOf rs))
  | [], _, o => by simp [exprsOf, rowsOf, sizeOf]
  | r :: rs, h, o => by
    have h1 := flat_parts r.tree (h r (List.mem_cons_self ..)) o
    have h2 := rules_parts rs (fun x hx => h x (List.mem_cons_of_mem _ hx)) (o + r.tree.size)
    simp only [exprsOf, rowsOf, List.flatMap_append, List.map_cons]
    rw [show sizeOf (r :: rs) = r.tree.size + sizeOf rs by simp [sizeOf], ← range_join]
    refine List.Perm.trans ?_ (h1.append h2)
    generalize (r.tree.flat o).flatMap partsOf = A
    generalize (exprsOf (o + r.tree.size) rs).flatMap partsOf = B
    generalize (rowsOf (o + r.tree.size) rs).map (·.root) = C
    rw [List.perm_iff_count]
    intro z
    simp only [List.count_append, List.count_cons, List.count_nil]
    omega
theorem rules_ahead : ∀ (rs : List Rl), (∀ r ∈ rs, r.tree.ops) → ∀ o, Ahead o (exprsOf o rs)
  | [], _, o => ahead_nil o
  | r :: rs, h, o => by
    refine (flat_ahead r.tree (h r (List.mem_cons_self ..)) o).join ?_
    rw [Tr.flat_len]
    exact rules_ahead rs (fun x hx => h x (List.mem_cons_of_mem _ hx)) _
/-- All that a row can be. -/
def allL : List (List UInt8) := [[110, 101, 103], [105, 102], [119, 104, 111, 108, 101], [97, 109, 111, 117, 110, 116], [114, 97, 116, 101], [110, 97, 109, 101]] ++ opsL
theorem flat_all : ∀ (t : Tr), t.ops → ∀ o, ∀ x ∈ t.flat o, x.op ∈ allL
  | .whole n, _, o, x, hx => by rw [List.mem_singleton.1 hx]; show ([119, 104, 111, 108, 101] : List UInt8) ∈ allL; decide
  | .amount n, _, o, x, hx => by rw [List.mem_singleton.1 hx]; show ([97, 109, 111, 117, 110, 116] : List UInt8) ∈ allL; decide
  | .rate n, _, o, x, hx => by rw [List.mem_singleton.1 hx]; show ([114, 97, 116, 101] : List UInt8) ∈ allL; decide
  | .name s, _, o, x, hx => by rw [List.mem_singleton.1 hx]; show ([110, 97, 109, 101] : List UInt8) ∈ allL; decide
  | .neg a, h, o, x, hx => by
    rcases List.mem_append.1 hx with hx | hx
    · exact flat_all a h o x hx
    · rw [List.mem_singleton.1 hx]; show ([110, 101, 103] : List UInt8) ∈ allL; decide
  | .bin op a b, h, o, x, hx => by
    rcases List.mem_append.1 hx with hx | hx
    · rcases List.mem_append.1 hx with hx | hx
      · exact flat_all a h.2.1 o x hx
      · exact flat_all b h.2.2 _ x hx
    · rw [List.mem_singleton.1 hx]; exact List.mem_append_right _ h.1
  | .cond a b c, h, o, x, hx => by
    rcases List.mem_append.1 hx with hx | hx
    · rcases List.mem_append.1 hx with hx | hx
      · rcases List.mem_append.1 hx with hx | hx
        · exact flat_all a h.1 o x hx
        · exact flat_all b h.2.1 _ x hx
      · exact flat_all c h.2.2 _ x hx
    · rw [List.mem_singleton.1 hx]; show ([105, 102] : List UInt8) ∈ allL; decide
theorem rules_all : ∀ (rs : List Rl), (∀ r ∈ rs, r.tree.ops) → ∀ o, ∀ x ∈ exprsOf o rs, x.op ∈ allL
  | [], _, o, x, hx => by cases hx
  | r :: rs, h, o, x, hx => by
    rcases List.mem_append.1 hx with hx | hx
    · exact flat_all r.tree (h r (List.mem_cons_self ..)) o x hx
    · exact rules_all rs (fun y hy => h y (List.mem_cons_of_mem _ hy)) _ x hx
/-- A root is a row's place. -/
theorem rows_roots : ∀ (rs : List Rl) (o : Nat), ∀ y ∈ rowsOf o rs, y.root < o + sizeOf rs
  | [], o, y, hy => by cases hy
  | r :: rs, o, y, hy => by
    have p := r.tree.size_pos
    have e : sizeOf (r :: rs) = r.tree.size + sizeOf rs := by simp [sizeOf]
    rw [e]
    rcases List.mem_cons.1 hy with rfl | hy
    · show o + r.tree.size - 1 < _; omega
    · have := rows_roots rs (o + r.tree.size) y hy; omega
/-- What reading answers has such signs. -/
def OpsA {α : Type} (P : α → Prop) (x : Option (R α)) : Prop := ∀ ts a, x = some (.ok ts a) → P a
theorem OpsA.next {α β : Type} {x : Option (R α)} {k : List Tok → α → Option (R β)} {P : α → Prop} {Q : β → Prop} (h : OpsA P x) (hk : ∀ ts a, P a → OpsA Q (k ts a)) : OpsA Q (R.next x k) := by
  intro ts b e
  cases x with
  | none => cases e
  | some r =>
    cases r with
    | bad e' p => cases e
    | ok t1 a => exact hk t1 a (h t1 a rfl) ts b e
theorem OpsA.ok {α : Type} {P : α → Prop} {ts : List Tok} {a : α} (h : P a) : OpsA P (some (R.ok ts a)) := fun ts' a' e => by cases e; exact h
theorem OpsA.bad {α : Type} {P : α → Prop} {e p : Nat} : OpsA P (some (R.bad (α := α) e p)) := fun ts a k => by cases k
theorem OpsA.any {α : Type} (x : Option (R α)) : OpsA (fun _ => True) x := fun _ _ _ => trivial
def Md.ops : Md → Prop
  | .more _ a => a.ops | _ => True
theorem level_ops {n : Nat} {s : List UInt8} (h : s ∈ level n) : s ∈ opsL := by
  have e : ∀ n, ∀ s ∈ level n, s ∈ opsL := fun n => by
    match n with
    | 0 => decide
    | 1 => decide
    | n + 2 => show ∀ s ∈ ([[42]] : List (List UInt8)), s ∈ opsL; decide
  exact e n s h
theorem run_ops (en : Nat) : ∀ (f : Nat) (m : Md), m.ops → ∀ (d : Nat) (ts : List Tok), OpsA Tr.ops (run en f m d ts) := by
  intro f
  induction f with
  | zero => intro m _ d ts t a e; cases e
  | succ f ih =>
    intro m hm d ts
    have W : ∀ d ts, OpsA Tr.ops (run en f .whole d ts) := fun d ts => ih .whole trivial d ts
    have F : ∀ d ts, OpsA Tr.ops (run en f .factor d ts) := fun d ts => ih .factor trivial d ts
    have C : ∀ n d ts, OpsA Tr.ops (run en f (.chain n) d ts) := fun n d ts => ih (.chain n) trivial d ts
    have M : ∀ n (a : Tr), a.ops → ∀ d ts, OpsA Tr.ops (run en f (.more n a) d ts) := fun n a h d ts => ih (.more n a) h d ts
    show OpsA _ (body en (run en f) m d ts)
    cases m with
    | whole =>
      simp only [body]
      by_cases h1 : 20 < d
      · rw [if_pos h1]; exact .bad
      rw [if_neg h1]
      by_cases h2 : textOf ts = [105, 102]
      · rw [if_pos h2]
        exact (W _ _).next fun t1 a k1 => (OpsA.any _).next fun t2 _ _ => (W _ _).next fun t3 b k3 => (OpsA.any _).next fun t4 _ _ => (W _ _).next fun t5 c k5 => .ok ⟨k1, k3, k5⟩
      · rw [if_neg h2]; exact C 0 d ts
    | chain n =>
      simp only [body]
      by_cases h1 : 3 ≤ n
      · rw [if_pos h1]; exact F d ts
      · rw [if_neg h1]
        exact (C (n + 1) d ts).next fun t1 a k1 => M n a k1 d t1
    | more n a =>
      simp only [body]
      by_cases h1 : textOf ts ∈ level n
      · rw [if_pos h1]
        refine (C (n + 1) d ts.tail).next fun t1 b k1 => ?_
        have hb : (Tr.bin (textOf ts) a b).ops := ⟨level_ops h1, hm, k1⟩
        by_cases h2 : n = 0
        · rw [if_pos h2]; exact .ok hb
        · rw [if_neg h2]; exact M n _ hb d t1
      · rw [if_neg h1]; exact .ok hm
    | factor =>
      simp only [body]
      by_cases h1 : 20 < d
      · rw [if_pos h1]; exact .bad
      rw [if_neg h1]
      by_cases h2 : textOf ts = [45]
      · rw [if_pos h2]
        exact (F _ _).next fun t1 a k1 => .ok k1
      rw [if_neg h2]
      by_cases h3 : textOf ts = [40]
      · rw [if_pos h3]
        exact (W _ _).next fun t1 a k1 => (OpsA.any _).next fun t2 _ _ => .ok k1
      rw [if_neg h3]
      by_cases h4 : textOf ts = [109, 105, 110] ∨ textOf ts = [109, 97, 120]
      · rw [if_pos h4]
        have ho : textOf ts ∈ opsL := by rcases h4 with h4 | h4 <;> rw [h4] <;> decide
        exact (OpsA.any _).next fun t1 _ _ => (W _ _).next fun t2 a k2 => (OpsA.any _).next fun t3 _ _ => (W _ _).next fun t4 b k4 => (OpsA.any _).next fun t5 _ _ => .ok ⟨ho, k2, k4⟩
      rw [if_neg h4]
      cases ts with
      | nil => exact .bad
      | cons t r =>
        cases hl : leaf t with
        | none => simp only [hl]; exact .bad
        | some x =>
          simp only [hl]
          have hx : x.ops := by
            unfold leaf at hl
            (repeat' split at hl) <;> first | (cases hl; trivial) | cases hl
          exact .ok hx
theorem rulesF_ops (en : Nat) : ∀ (f c : Nat) (ts : List Tok), OpsA (fun rs => ∀ r ∈ rs, Tr.ops r.tree) (rulesF en f c ts)
  | f, c, [] => by cases f <;> exact .ok (fun r h => by cases h)
  | 0, c, t :: ts => fun _ _ e => by cases e
  | f + 1, c, t :: ts => by
    simp only [rulesF]
    by_cases h1 : textOf (t :: ts) ∉ kinds
    · rw [if_pos h1]; exact .bad
    rw [if_neg h1]
    by_cases h2 : 59 < c
    · rw [if_pos h2]; exact .bad
    rw [if_neg h2]
    cases ts with
    | nil => exact .bad
    | cons n r =>
      simp only []
      by_cases h3 : n.kind ≠ 1 ∨ n.text ∈ takenL
      · rw [if_pos h3]; exact .bad
      rw [if_neg h3]
      exact (OpsA.any _).next fun t1 _ _ => (show OpsA Tr.ops (ex en .whole 1 t1) from run_ops en _ .whole trivial 1 t1).next fun t2 x k2 => (OpsA.any _).next fun t3 _ _ => (rulesF_ops en f (c + 1) t3).next fun t4 rs k4 => .ok (fun y hy => by
        rcases List.mem_cons.1 hy with rfl | hy
        · exact k2
        · exact k4 y hy)
theorem parse_ops {s : List UInt8} {t : List Tok} {rs : List Rl} (h : parse s = some (.ok t rs)) : ∀ r ∈ rs, Tr.ops r.tree := by
  unfold parse at h
  obtain ⟨r, hr⟩ : ∃ r, PLex.all PLex.kindOf 0 s = r := ⟨_, rfl⟩
  obtain ⟨q, ts⟩ := r
  rw [hr] at h
  cases q with
  | some q => cases h
  | none => exact rulesF_ops s.length ts.length 0 ts _ _ h
/-- How often each place was told. -/
def usedOf (m : Nat) (l : List Nat) : List Int := (List.range m).map fun n => (l.count n : Int)
theorem usedOf_len (m : Nat) (l : List Nat) : (usedOf m l).length = m := by simp [usedOf]
theorem usedOf_nil (m : Nat) : usedOf m [] = List.replicate m 0 := by
  unfold usedOf
  apply List.ext_getElem
  · simp
  · intro i h1 h2; simp
theorem usedOf_get {m n : Nat} (l : List Nat) (h : n < m) : (usedOf m l)[n]? = some (l.count n : Int) := by
  simp [usedOf, h]
theorem usedOf_snoc (m n : Nat) (l : List Nat) : (usedOf m l).set n ((l.count n : Int) + 1) = usedOf m (l ++ [n]) := by
  apply List.ext_getElem
  · simp [usedOf]
  · intro i h1 h2
    simp only [usedOf, List.getElem_set, List.getElem_map, List.getElem_range, List.count_append, List.count_cons, List.count_nil]
    by_cases hi : n = i
    · subst hi; simp
    · simp [hi]
theorem used_end {rs : List Rl} (h : ∀ r ∈ rs, Tr.ops r.tree) {n : Nat} (hn : n < sizeOf rs) : ((exprsOf 0 rs).flatMap partsOf ++ (rowsOf 0 rs).map (·.root)).count n = 1 := by
  rw [(rules_parts rs h 0).count_eq]
  have : List.range' 0 (sizeOf rs) = List.range (sizeOf rs) := List.range_eq_range'.symm
  rw [this]
  have h1 : (List.range (sizeOf rs)).count n ≤ 1 := List.nodup_iff_count.1 List.nodup_range n
  have h2 : 0 < (List.range (sizeOf rs)).count n := List.count_pos_iff.2 (List.mem_range.2 hn)
  omega
theorem rules_fewP (en : Nat) : ∀ (n c : Nat) (ts : List Tok), ts.length ≤ n → Few ts.length (fun rs => sizeOf rs + rs.length) (rules en c ts)
  | _, c, [], _ => by rw [rules_nil]; exact .ok (by simp [sizeOf])
  | 0, _, t :: ts, h => by simp at h
  | n + 1, c, t :: ts, h => by
    rw [rules_cons]
    by_cases h1 : textOf (t :: ts) ∉ kinds
    · rw [if_pos h1]; exact .bad
    rw [if_neg h1]
    by_cases h2 : 59 < c
    · rw [if_pos h2]; exact .bad
    rw [if_neg h2]
    cases ts with
    | nil => exact .bad
    | cons m r =>
      simp only []
      by_cases h3 : m.kind ≠ 1 ∨ m.text ∈ takenL
      · rw [if_pos h3]; exact .bad
      rw [if_neg h3]
      have hl : r.length + 2 ≤ n + 1 := by simpa using h
      refine (must_few (List.cons_ne_nil _ _) r).next fun t1 _ k1 => (ex_few en .whole 1 t1).next fun t2 x k2 => (must_few (List.cons_ne_nil _ _) t2).next fun t3 _ k3 => ?_
      simp only [Md.sz] at k2
      have hl3 : t3.length ≤ n := by omega
      refine (rules_fewP en n (c + 1) t3 hl3).next fun t4 rs k4 => .ok ?_
      simp only [sizeOf, List.map_cons, List.sum_cons, List.length_cons] at k4 ⊢
      omega
theorem parse_fewP {s : List UInt8} {t : List Tok} {rs : List Rl} (h : parse s = some (.ok t rs)) : sizeOf rs + rs.length ≤ s.length := by
  unfold parse at h
  obtain ⟨r, hr⟩ : ∃ r, PLex.all PLex.kindOf 0 s = r := ⟨_, rfl⟩
  obtain ⟨q, ts⟩ := r
  have hl := PLex.all_lone (K := PLex.kindOf) s.length 0 s (Nat.le_refl _)
  have hn := PLex.all_sum (K := PLex.kindOf) s.length 0 s (Nat.le_refl _)
  rw [hr] at h hl hn
  cases q with
  | some q => cases h
  | none =>
    have hn' : (ts.map (fun x => x.text.length)).sum ≤ s.length := hn
    have h1 : ts.length ≤ (ts.map (fun x => x.text.length)).sum := PLex.sum_len (fun x hx => (hl x hx).ne)
    have h2 := rules_fewP s.length ts.length 0 ts (Nat.le_refl _) _ _ h
    simp only [] at h2
    omega
end PTree

namespace Go.Proofs.YtdkcdgjpcojdfaaGreatDoor
open Go.RowKit
open PTree (R Ex Tr Rl Row)

theorem tparse_ok {s : ByteArray} {rs : List Rl} {t : List PLex.Tok} (h : PTree.parse s.data.toList = some (.ok t rs)) (hs : s.size ≤ 4000) (w : World) :
    Calls Tryz.prog 10 #[.string s] w fun e w' => ∃ A ca B cb, e = .returned (.tuple #[.agg #[.slice A rs.length ca, .slice B (PTree.sizeOf rs) cb], .int .i64 0, .int .i64 0]) ∧ SlX rowR w' A rs.length (PTree.rowsOf 0 rs) ∧ SlX exR w' B (PTree.sizeOf rs) (PTree.exprsOf 0 rs) ∧ Below w.heap.size w w' := by
  refine (tparse_any s w hs).mono fun e w' k => ?_
  rw [h] at k
  obtain ⟨hb, A, ca, B, cb, he, _, _, h1, h2⟩ := k
  exact ⟨A, ca, B, cb, he, h1, h2, hb⟩
theorem tparse_cap {s : ByteArray} {rs : List Rl} {t : List PLex.Tok} (h : PTree.parse s.data.toList = some (.ok t rs)) (hs : s.size ≤ 4000) (w : World) :
    Calls Tryz.prog 10 #[.string s] w fun e w' => ∃ A ca B cb, e = .returned (.tuple #[.agg #[.slice A rs.length ca, .slice B (PTree.sizeOf rs) cb], .int .i64 0, .int .i64 0]) ∧ (A = none → ca = 0) ∧ (B = none → cb = 0) ∧ rs.length ≤ ca ∧ PTree.sizeOf rs ≤ cb ∧ SlX rowR w' A rs.length (PTree.rowsOf 0 rs) ∧ SlX exR w' B (PTree.sizeOf rs) (PTree.exprsOf 0 rs) ∧ Below w.heap.size w w' := by
  refine (tparse_any s w hs).mono fun e w' k => ?_
  rw [h] at k
  obtain ⟨hb, A, ca, B, cb, he, z1, ⟨z2, z3, z4⟩, h1, h2⟩ := k
  exact ⟨A, ca, B, cb, he, z1, z2, z3, z4, h1, h2, hb⟩
theorem tparse_bad {s : ByteArray} {k q : Nat} (h : PTree.parse s.data.toList = some (.bad k q)) (hs : s.size ≤ 4000) (w : World) :
    Calls Tryz.prog 10 #[.string s] w fun e w' => e = .returned (.tuple #[.agg #[.slice none 0 0, .slice none 0 0], .int .i64 (q : Nat), .int .i64 (k : Nat)]) ∧ Below w.heap.size w w' := by
  refine (tparse_any s w hs).mono fun e w' k => ?_
  rw [h] at k
  exact ⟨k.2.1, k.1⟩
theorem slx_cell {α : Type} {R : Rec α} {w : World} {A : Option Addr} {n : Nat} {l : List α} (h : SlX R w A n l) {i : Nat} (hi : i < n) : ∃ b off, A = some ⟨b, off, none⟩ ∧ ∀ j v, (R.C (l[i]'(by rw [h.1]; exact hi)))[j]? = some v → w.cell? ⟨b, off + i * R.k + j, none⟩ = some v := by
  obtain ⟨b, off, e, hc⟩ := h.at hi
  exact ⟨b, off, e, fun j v hv => hc i (by rw [h.1]; exact hi) j v hv⟩
end Go.Proofs.YtdkcdgjpcojdfaaGreatDoor
