/-
  Each row of a program's expressions but the roots is a part of just one, that stands behind it.
  tree.Parse of a text that is known: the program's rows, or the error.
-/
import Derived.Test.YtdkcdgjpcojdfaaGreatDoorTreeParseG

namespace PTree
open PLex (Tok)
def opsL : List (List UInt8) := [[43], [45], [42], [60], [60, 61], [61], [60, 62], [62], [62, 61], [109, 105, 110], [109, 97, 120]]
def partsOf (x : Ex) : List Nat := if x.op = [110, 101, 103] then [x.a] else if x.op ∈ opsL then [x.a, x.b] else if x.op = [105, 102] then [x.a, x.b, x.c] else []
def Ahead (o : Nat) (l : List Ex) : Prop := ∀ i x, l[i]? = some x → ∀ p ∈ partsOf x, p < o + i
theorem rows_roots : ∀ (rs : List Rl) (o : Nat), ∀ y ∈ rowsOf o rs, y.root < o + sizeOf rs
  | [], o, y, hy => by cases hy
  | r :: rs, o, y, hy => by
    have p := r.tree.size_pos
    have e : sizeOf (r :: rs) = r.tree.size + sizeOf rs := by simp [sizeOf]
    rw [e]
    rcases List.mem_cons.1 hy with rfl | hy
    · show o + r.tree.size - 1 < _; omega
    · have := rows_roots rs (o + r.tree.size) y hy; omega
def OpsA {α : Type} (P : α → Prop) (x : Option (R α)) : Prop := ∀ ts a, x = some (.ok ts a) → P a
theorem OpsA.next {α β : Type} {x : Option (R α)} {k : List Tok → α → Option (R β)} {P : α → Prop} {Q : β → Prop} (h : OpsA P x) (hk : ∀ ts a, P a → OpsA Q (k ts a)) : OpsA Q (R.next x k) := by
  intro ts b e
  cases x with
  | none => cases e
  | some r =>
    cases r with
    | bad e' p => cases e
    | ok t1 a => exact hk t1 a (h t1 a rfl) ts b e
theorem OpsA.ok {α : Type} {P : α → Prop} {ts : List Tok} {a : α} (h : P a) : OpsA P (some (R.ok ts a)) := fun ts' a' e => by cases e; exact h
theorem OpsA.bad {α : Type} {P : α → Prop} {e p : Nat} : OpsA P (some (R.bad (α := α) e p)) := fun ts a k => by cases k
theorem OpsA.any {α : Type} (x : Option (R α)) : OpsA (fun _ => True) x := fun _ _ _ => trivial
theorem level_ops {n : Nat} {s : List UInt8} (h : s ∈ level n) : s ∈ opsL := by
  have e : ∀ n, ∀ s ∈ level n, s ∈ opsL := fun n => by
    match n with
    | 0 => decide
    | 1 => decide
    | n + 2 => show ∀ s ∈ ([[42]] : List (List UInt8)), s ∈ opsL; decide
  exact e n s h
theorem rules_fewP (en : Nat) : ∀ (n c : Nat) (ts : List Tok), ts.length ≤ n → Few ts.length (fun rs => sizeOf rs + rs.length) (rules en c ts)
  | _, c, [], _ => by rw [rules_nil]; exact .ok (by simp [sizeOf])
  | 0, _, t :: ts, h => by simp at h
  | n + 1, c, t :: ts, h => by
    rw [rules_cons]
    by_cases h1 : textOf (t :: ts) ∉ kinds
    · rw [if_pos h1]; exact .bad
    rw [if_neg h1]
    by_cases h2 : 59 < c
    · rw [if_pos h2]; exact .bad
    rw [if_neg h2]
    cases ts with
    | nil => exact .bad
    | cons m r =>
      simp only []
      by_cases h3 : m.kind ≠ 1 ∨ m.text ∈ takenL
      · rw [if_pos h3]; exact .bad
      rw [if_neg h3]
      have hl : r.length + 2 ≤ n + 1 := by simpa using h
      refine (must_few (List.cons_ne_nil _ _) r).next fun t1 _ k1 => (ex_few en .whole 1 t1).next fun t2 x k2 => (must_few (List.cons_ne_nil _ _) t2).next fun t3 _ k3 => ?_
      simp only [Md.sz] at k2
      have hl3 : t3.length ≤ n := by omega
      refine (rules_fewP en n (c + 1) t3 hl3).next fun t4 rs k4 => .ok ?_
      simp only [sizeOf, List.map_cons, List.sum_cons, List.length_cons] at k4 ⊢
      omega
theorem parse_fewP {s : List UInt8} {t : List Tok} {rs : List Rl} (h : parse s = some (.ok t rs)) : sizeOf rs + rs.length ≤ s.length := by
  unfold parse at h
  obtain ⟨r, hr⟩ : ∃ r, PLex.all PLex.kindOf 0 s = r := ⟨_, rfl⟩
  obtain ⟨q, ts⟩ := r
  have hl := PLex.all_lone (K := PLex.kindOf) s.length 0 s (Nat.le_refl _)
  have hn := PLex.all_sum (K := PLex.kindOf) s.length 0 s (Nat.le_refl _)
  rw [hr] at h hl hn
  cases q with
  | some q => cases h
  | none =>
    have hn' : (ts.map (fun x => x.text.length)).sum ≤ s.length := hn
    have h1 : ts.length ≤ (ts.map (fun x => x.text.length)).sum := PLex.sum_len (fun x hx => (hl x hx).ne)
    have h2 := rules_fewP s.length ts.length 0 ts (Nat.le_refl _) _ _ h
    simp only [] at h2
    omega
end PTree

namespace Go.Proofs.YtdkcdgjpcojdfaaGreatDoor
open Go.RowKit
open PTree (R Ex Tr Rl Row)

theorem tparse_cap {s : ByteArray} {rs : List Rl} {t : List PLex.Tok} (h : PTree.parse s.data.toList = some (.ok t rs)) (hs : s.size ≤ 4000) (w : World) :
    Calls Tryz.prog 10 #[.string s] w fun e w' => ∃ A ca B cb, e = .returned (.tuple #[.agg #[.slice A rs.length ca, .slice B (PTree.sizeOf rs) cb], .int .i64 0, .int .i64 0]) ∧ (A = none → ca = 0) ∧ (B = none → cb = 0) ∧ rs.length ≤ ca ∧ PTree.sizeOf rs ≤ cb ∧ SlX rowR w' A rs.length (PTree.rowsOf 0 rs) ∧ SlX exR w' B (PTree.sizeOf rs) (PTree.exprsOf 0 rs) ∧ Below w.heap.size w w' := by
  refine (tparse_any s w hs).mono fun e w' k => ?_
  rw [h] at k
  obtain ⟨hb, A, ca, B, cb, he, z1, ⟨z2, z3, z4⟩, h1, h2⟩ := k
  exact ⟨A, ca, B, cb, he, z1, z2, z3, z4, h1, h2, hb⟩
end Go.Proofs.YtdkcdgjpcojdfaaGreatDoor
