/-
  Rows of words (an int, a text, an int) of the call's own: they read as lists; append of one word. For any type of three such cells.
  The ends of runs; what is answered of a text: its words, or the place of the first that is none.
  What lex.All answers, as a relation: words, or the place of what is none; a list of words in memory, read at a place.
-/
import Derived.Test.YtdkcdgjpcojdfaaGreatDoorPM
import Derived.OwnWalk
import Derived.Laws.AppendOwnNone
import Derived.Laws.OwnMore
import Derived.Maps.AppendAt
import Derived.Deep.AppendLies
import Derived.Deep.DeepCutAuto
import Derived.Deep.CutBlock

namespace Go.Proofs.YtdkcdgjpcojdfaaGreatDoor
open Go.RowKit

def tokC (x : PLex.Tok) : List Value := [.int .i64 (x.kind : Nat), .string ⟨x.text.toArray⟩, .int .i64 (x.at_ : Nat)]
def cellsT (l : List PLex.Tok) : List Value := l.flatMap tokC
theorem cellsT_snoc (l : List PLex.Tok) (x : PLex.Tok) : cellsT (l ++ [x]) = cellsT l ++ tokC x := by simp [cellsT]
theorem cellsT_get : ∀ (l : List PLex.Tok) (i : Nat) (h : i < l.length), (cellsT l)[i * 3]? = some (.int .i64 (l[i].kind : Nat)) ∧ (cellsT l)[i * 3 + 1]? = some (.string ⟨l[i].text.toArray⟩) ∧ (cellsT l)[i * 3 + 2]? = some (.int .i64 (l[i].at_ : Nat))
  | [], _, h => by simp at h
  | x :: l, 0, _ => ⟨rfl, rfl, rfl⟩
  | x :: l, i + 1, h => by
    have ih := cellsT_get l i (by simpa using h)
    have e : cellsT (x :: l) = tokC x ++ cellsT l := rfl
    have h3 : (tokC x).length = 3 := rfl
    rw [e, List.getElem?_append_right (by rw [h3]; omega), List.getElem?_append_right (by rw [h3]; omega), List.getElem?_append_right (by rw [h3]; omega), h3]
    rw [show (i + 1) * 3 - 3 = i * 3 by omega, show (i + 1) * 3 + 1 - 3 = i * 3 + 1 by omega, show (i + 1) * 3 + 2 - 3 = i * 3 + 2 by omega]
    exact ih
def SlT (w : World) (A : Option Addr) (n : Nat) (l : List PLex.Tok) : Prop :=
  l.length = n ∧ (n = 0 ∨ ∃ b off, A = some ⟨b, off, none⟩ ∧ ∀ i (h : i < l.length), w.cell? ⟨b, off + i * 3, none⟩ = some (.int .i64 (l[i].kind : Nat)) ∧ w.cell? ⟨b, off + i * 3 + 1, none⟩ = some (.string ⟨l[i].text.toArray⟩) ∧ w.cell? ⟨b, off + i * 3 + 2, none⟩ = some (.int .i64 (l[i].at_ : Nat)))
theorem SlT.on {w w' : World} {A : Option Addr} {n : Nat} {l : List PLex.Tok} (h : SlT w A n l) (hb : Below w.heap.size w w') : SlT w' A n l := by
  obtain ⟨h1, h2⟩ := h
  refine ⟨h1, ?_⟩
  rcases h2 with h2 | ⟨b, off, h3, h4⟩
  · exact .inl h2
  · exact .inr ⟨b, off, h3, fun i hi => ⟨(hb.cell (World.block_lt_of_cell? w _ (h4 i hi).1)).trans (h4 i hi).1, (hb.cell (World.block_lt_of_cell? w _ (h4 i hi).2.1)).trans (h4 i hi).2.1, (hb.cell (World.block_lt_of_cell? w _ (h4 i hi).2.2)).trans (h4 i hi).2.2⟩⟩
theorem slt_nil (w : World) : SlT w none 0 [] := ⟨rfl, .inl rfl⟩
theorem slt_of_own {w : World} {base n : Nat} {e : TypeId} {v : Value} {l : List PLex.Tok} (h : w.ownsRow base e 3 v n (cellsT l)) (hl : l.length = n) :
    ∃ A cap, v = .slice A n cap ∧ (A = none → cap = 0) ∧ n ≤ cap ∧ SlT w A n l := by
  rcases h.2 with ⟨rfl, rfl⟩ | ⟨g, cap, cur, rfl, _, _, h1, h2, _⟩
  · obtain rfl : l = [] := List.eq_nil_of_length_eq_zero hl
    exact ⟨none, 0, rfl, fun _ => rfl, Nat.le_refl _, slt_nil w⟩
  · refine ⟨_, cap, rfl, (fun e => by cases e), h1, hl, .inr ⟨g, 0, rfl, fun i hi => ?_⟩⟩
    obtain ⟨g1, g2, g3⟩ := cellsT_get l i hi
    have c1 := h.cells (g := g) rfl (i * 3) _ g1
    have c2 := h.cells (g := g) rfl (i * 3 + 1) _ g2
    have c3 := h.cells (g := g) rfl (i * 3 + 2) _ g3
    have ad : ∀ j, (⟨g, 0, none⟩ : Addr).add j = ⟨g, j, none⟩ := fun j => by unfold Addr.add; split <;> simp_all
    rw [ad] at c1 c2 c3
    simp only [Nat.zero_add]
    exact ⟨c1, c2, c3⟩

structure TokTy (e t : TypeId) : Prop where
  info : ∃ z, (Tryz.prog.info? e).map (fun i => (i.zero, i.size, i.bytes)) = some (some z, 3, 32) ∧ z.cells.size = 3
  under : Tryz.prog.underlying t = some (.slice e)
theorem append_tok {e t : TypeId} (T : TokTy e t) {w : World} {ops : Array Oper} {rest : List Oper} {o : Oper} {a : Act} {Q : Exit → Act → World → Prop} (hgd : o.guard = none) (s x : Operand)
    (ho : o.op = .call { callee := .builtin .append, args := #[s, x], argTypes := #[t, t] })
    (base : Nat) (v : Value) (l : List PLex.Tok) (k : Nat) (u : ByteArray) (p : Nat) (hs : a.eval s = v) (hown : w.ownsRow base e 3 v l.length (cellsT l))
    (hx : a.eval x = .slice (some ⟨w.heap.size, 0, none⟩) 1 1) (hn : l.length + 1 ≤ 100000) (hbase : base ≤ w.heap.size)
    (h : ∀ v' w', w'.ownsRow base e 3 v' (l.length + 1) (cellsT (l ++ [⟨k, u.data.toList, p⟩])) → Below base w w' → wpList Tryz.prog ops Q rest (a.put o.dst v') w') :
    wpList Tryz.prog ops Q (o :: rest) a (w.alloc (.cells #[.int .i64 (k : Nat), .string u, .int .i64 (p : Nat)] e)) := by
  obtain ⟨z, hz, hzs⟩ := T.info
  obtain ⟨i0, hi, hz0, hz1, hz2⟩ := info_parts hz
  have hu : (⟨u.data.toList.toArray⟩ : ByteArray) = u := by cases u; simp
  refine wpList_append_own_at _ hgd s x t ho base e i0 z 3 32 T.under hi hz0 hz1 hz2 hzs (by decide) v l.length _ hs (hown.alloc _) ⟨w.heap.size, 0, none⟩ 1 1 [.int .i64 (k : Nat), .string u, .int .i64 (p : Nat)] hx rfl ?_ (fun q hq => ?_) (by unfold maxLen; omega) (by omega) (by simp; omega) (fun v' w' ho' hg _ hat => h v' w' ?_ ?_)
  · intro j q hj
    match j, hj with
    | 0, hj => simp at hj; subst hj; simp [Addr.add]
    | 1, hj => simp at hj; subst hj; simp [Addr.add]
    | 2, hj => simp at hj; subst hj; simp [Addr.add]
  · simp at hq; rcases hq with rfl | rfl | rfl <;> rfl
  · rw [cellsT_snoc]; unfold tokC; simp only [hu]; exact ho'
  · exact ((Below.refl _ _).alloc hbase _).grown hg (by simp; omega) (fun k hk => (hown.lt k hk).1)
end Go.Proofs.YtdkcdgjpcojdfaaGreatDoor

namespace Go.Proofs.YtdkcdgjpcojdfaaGreatDoor
open Go.RowKit

theorem own_stays {w w' : World} {B e size n : Nat} {v : Value} {xs : List Value} (h : w.ownsRow B e size v n xs) (hb : Below w.heap.size w w') : w'.ownsRow B e size v n xs := by
  refine ⟨h.1, ?_⟩
  rcases h.2 with hn | ⟨g, cap, cur, rfl, hg, hgg, rest⟩
  · exact .inl hn
  · exact .inr ⟨g, cap, cur, rfl, hg, by rw [hb.block g (Array.getElem?_eq_some_iff.1 hgg).1]; exact hgg, rest⟩

def endP (p : UInt8 → Bool) (s : ByteArray) (j : Nat) : Nat := j + ((s.data.toList.drop j).takeWhile p).length
theorem endP_yes {p : UInt8 → Bool} {s : ByteArray} {j : Nat} (h : j < s.size) (hc : p s[j] = true) : endP p s j = endP p s (j + 1) := by
  unfold endP
  rw [drop_at h, List.takeWhile_cons, if_pos hc, List.length_cons]; omega
theorem endP_no {p : UInt8 → Bool} {s : ByteArray} {j : Nat} (h : j < s.size) (hc : p s[j] = false) : endP p s j = j := by
  unfold endP
  rw [drop_at h, List.takeWhile_cons, if_neg (by rw [hc]; exact Bool.false_ne_true)]; rfl
theorem endP_last {p : UInt8 → Bool} {s : ByteArray} : endP p s s.size = s.size := by
  unfold endP
  rw [List.drop_of_length_le (by simp)]; rfl
theorem endOf_le {l : List UInt8} {s : ByteArray} {j : Nat} (h : j ≤ s.size) : j ≤ endOf l s j ∧ endOf l s j ≤ s.size := by
  unfold endOf
  have := PLex.takeWhile_len (p := fun c => inB c l) (s.data.toList.drop j)
  rw [List.length_drop] at this
  have e : s.data.toList.length = s.size := by simp
  omega
theorem byte_eq {c k : UInt8} {n : Int} (hk : (k.toNat : Int) = n) (h : c = k) : (((c.toNat : Nat) : Int) == n) = true := by rw [h, hk]; exact beq_self_eq_true _
theorem byte_ne {c k : UInt8} {n : Int} (hk : (k.toNat : Int) = n) (h : c ≠ k) : (((c.toNat : Nat) : Int) == n) = false := by
  rw [beq_eq_false_iff_ne]; intro e; exact h (UInt8.toNat_inj.1 (by omega))
theorem byte_ne' {c k : UInt8} {n : Int} (hk : (k.toNat : Int) = n) (h : c ≠ k) : (((c.toNat : Nat) : Int) != n) = true := by
  rw [bne_iff_ne]; intro e; exact h (UInt8.toNat_inj.1 (by omega))
theorem byte_eq' {c k : UInt8} {n : Int} (hk : (k.toNat : Int) = n) (h : c = k) : (((c.toNat : Nat) : Int) != n) = false := by rw [h, hk]; exact bne_self_eq_false _
theorem slice_list (s : ByteArray) (a b : Nat) : (s.extract a b).data.toList = (s.data.toList.drop a).take (b - a) := by
  rw [ByteArray.data_extract, Array.toList_extract, List.extract]

def RefAll (r : Option Nat × List PLex.Tok) (w : World) (e : Ending) (w' : World) : Prop :=
  ∃ A n cap, e = .returned (.tuple #[.slice A n cap, .int .i64 (match r.1 with | some q => (q : Int) | none => -1)]) ∧ (A = none → cap = 0) ∧ n ≤ cap ∧ SlT w' A n (if r.1.isSome = true then [] else r.2) ∧ Below w.heap.size w w'
theorem refAll_bad {r : Option Nat × List PLex.Tok} {q : Nat} (h : r.1 = some q) {w w' : World} (hb : Below w.heap.size w w') : RefAll r w (.returned (.tuple #[.slice none 0 0, .int .i64 (q : Nat)])) w' := by
  refine ⟨none, 0, 0, ?_, fun _ => rfl, Nat.le_refl _, ?_, hb⟩
  · rw [h]
  · rw [h]; exact slt_nil _

end Go.Proofs.YtdkcdgjpcojdfaaGreatDoor

namespace PLex
theorem all_sum {K : List UInt8 → Nat} : ∀ (n p : Nat) (l : List UInt8), l.length ≤ n → (((all K p l).2.map (fun x => x.text.length)).sum ≤ l.length)
  | _, _, [], _ => by simp [all_nil]
  | 0, _, _ :: _, h => by simp at h
  | n + 1, p, c :: r, h => by
    obtain ⟨s1, s2⟩ := step_len K c r
    have h' : r.length + 1 ≤ n + 1 := h
    have hl : ((c :: r).drop (step K (c :: r)).2).length ≤ n := by rw [List.length_drop]; omega
    have ih := all_sum (K := K) n (p + (step K (c :: r)).2) _ hl
    rw [List.length_drop] at ih
    rw [all_cons]
    by_cases h0 : (step K (c :: r)).1 = 0
    · rw [if_pos h0]; simp
    · rw [if_neg h0]
      by_cases h6 : (step K (c :: r)).1 = 6
      · rw [if_pos h6]; omega
      · rw [if_neg h6]
        simp only [List.map_cons, List.sum_cons, List.length_take]
        omega
theorem sum_len {l : List Tok} (h : ∀ x ∈ l, x.text ≠ []) : l.length ≤ (l.map (fun x => x.text.length)).sum := by
  induction l with
  | nil => simp
  | cons x l ih =>
    have h1 := ih (fun y hy => h y (List.mem_cons_of_mem _ hy))
    have h2 := List.length_pos_iff.2 (h x (List.mem_cons_self ..))
    simp only [List.length_cons, List.map_cons, List.sum_cons]; omega
theorem Lone.ne {K : List UInt8 → Nat} {k : Nat} {u : List UInt8} (h : Lone K k u) : u ≠ [] := by
  obtain ⟨c, r, rfl, _⟩ := h; exact List.cons_ne_nil _ _
theorem Same.len {a b : List Tok} (h : Same a b) : a.length = b.length := by have := congrArg List.length h; simpa using this
theorem Same.at {a b : List Tok} (h : Same a b) {i : Nat} (h1 : i < a.length) (h2 : i < b.length) : a[i].kind = b[i].kind ∧ a[i].text = b[i].text := by
  have k := congrArg (fun l => l[i]?) h
  simp only [List.getElem?_map, List.getElem?_eq_getElem h1, List.getElem?_eq_getElem h2, Option.map_some, Option.some.injEq, Prod.mk.injEq] at k
  exact k
end PLex
namespace Go.Proofs.YtdkcdgjpcojdfaaGreatDoor
open Go.RowKit

def LexAns (r : Option Nat × List PLex.Tok) (w : World) (e : Ending) (w' : World) : Prop :=
  ∃ A n cap, e = .returned (.tuple #[.slice A n cap, .int .i64 (match r.1 with | some q => (q : Int) | none => 0), .int .i64 (match r.1 with | some _ => 2 | none => 0)]) ∧ (A = none → cap = 0) ∧ n ≤ cap ∧ SlT w' A n (if r.1.isSome = true then [] else r.2) ∧ Below w.heap.size w w' ∧ (r.1 = none → w'.ownsRow w.heap.size 82 3 (.slice A n cap) n (cellsT r.2))
theorem LexAns.bad {r : Option Nat × List PLex.Tok} {w : World} {e : Ending} {w' : World} (h : LexAns r w e w') {q : Nat} (hq : r.1 = some q) :
    ∃ A cap, e = .returned (.tuple #[.slice A 0 cap, .int .i64 q, .int .i64 2]) ∧ Below w.heap.size w w' := by
  obtain ⟨A, n, cap, rfl, _, _, h3, h4, _⟩ := h
  rw [hq] at h3 ⊢
  obtain rfl : 0 = n := h3.1
  exact ⟨A, cap, rfl, h4⟩
theorem LexAns.ok {r : Option Nat × List PLex.Tok} {w : World} {e : Ending} {w' : World} (h : LexAns r w e w') (hq : r.1 = none) :
    ∃ A cap, e = .returned (.tuple #[.slice A r.2.length cap, .int .i64 0, .int .i64 0]) ∧ SlT w' A r.2.length r.2 ∧ Below w.heap.size w w' := by
  obtain ⟨A, n, cap, rfl, _, _, h3, h4, _⟩ := h
  rw [hq] at h3 ⊢
  obtain rfl : r.2.length = n := h3.1
  exact ⟨A, cap, rfl, h3, h4⟩
theorem LexAns.own {r : Option Nat × List PLex.Tok} {w : World} {e : Ending} {w' : World} (h : LexAns r w e w') (hq : r.1 = none) :
    ∃ A cap, e = .returned (.tuple #[.slice A r.2.length cap, .int .i64 0, .int .i64 0]) ∧ w'.ownsRow w.heap.size 82 3 (.slice A r.2.length cap) r.2.length (cellsT r.2) ∧ Below w.heap.size w w' := by
  obtain ⟨A, n, cap, rfl, _, _, h3, h4, h5⟩ := h
  have h6 := h5 hq
  rw [hq] at h3 ⊢
  obtain rfl : r.2.length = n := h3.1
  exact ⟨A, cap, rfl, h6, h4⟩
theorem SlT.at {w : World} {A : Option Addr} {n : Nat} {l : List PLex.Tok} (h : SlT w A n l) {i : Nat} (hi : i < n) :
    ∃ b off, A = some ⟨b, off, none⟩ ∧ ∀ i (h : i < l.length), w.cell? ⟨b, off + i * 3, none⟩ = some (.int .i64 (l[i].kind : Nat)) ∧ w.cell? ⟨b, off + i * 3 + 1, none⟩ = some (.string ⟨l[i].text.toArray⟩) ∧ w.cell? ⟨b, off + i * 3 + 2, none⟩ = some (.int .i64 (l[i].at_ : Nat)) := by
  rcases h.2 with h | h
  · omega
  · exact h
end Go.Proofs.YtdkcdgjpcojdfaaGreatDoor
