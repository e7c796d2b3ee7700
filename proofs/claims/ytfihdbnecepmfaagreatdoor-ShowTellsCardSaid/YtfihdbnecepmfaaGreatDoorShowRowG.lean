/-
  A row of pieces of the call's own, of which the last one is taken; it and a builder stand while the other one grows. What a row holds, read anew (for a loop's measure).
-/
import Derived.Test.YtfihdbnecepmfaaGreatDoorRV
import Derived.Test.YtfihdbnecepmfaaGreatDoorShowBldG

set_option linter.unusedVariables false
namespace Go.Proofs.YtfihdbnecepmfaaGreatDoor
open Go.RowKit
open PShow (Pc)

/-- The last one is taken: what is left is a row of the call's own. -/
theorem own_last {α : Type} {R : Rec α} {w : World} {base e n : Nat} {v : Value} {l : List α} {x : α} (h : w.ownsRow base e R.k v (n + 1) (R.cells (l ++ [x]))) (hl : l.length = n) :
    ∃ g c, v = .slice (some ⟨g, 0, none⟩) (n + 1) c ∧ n + 1 ≤ c ∧ w.ownsRow base e R.k (.slice (some ⟨g, 0, none⟩) n c) n (R.cells l) ∧ ∀ (j : Nat) (u : Value), (R.C x)[j]? = some u → w.cell? ⟨g, n * R.k + j, none⟩ = some u := by
  obtain ⟨h1, h2⟩ := h
  rcases h2 with ⟨rfl, h2⟩ | ⟨g, c, cur, rfl, hg, hh, h3, h4, h5, h6⟩
  · omega
  · have e1 : (R.cells (l ++ [x])).length = (R.cells l).length + (R.cells [x]).length := by rw [R.cells_append, List.length_append]
    refine ⟨g, c, rfl, h3, ⟨by rw [R.cells_len, hl], .inr ⟨g, c, cur, rfl, hg, hh, by omega, h4, h5, ?_⟩⟩, ?_⟩
    · have h7 := congrArg (List.take (R.cells l).length) h6
      rw [List.take_take, Nat.min_eq_left (by rw [← h1, e1]; omega), R.cells_append, List.take_left] at h7
      rw [R.cells_len, hl] at h7
      exact h7
    · intro j u hu
      have hj : j < R.k := by rw [← R.len x]; exact (List.getElem?_eq_some_iff.1 hu).1
      have ho : w.ownsRow base e R.k (.slice (some ⟨g, 0, none⟩) (n + 1) c) (n + 1) (R.cells (l ++ [x])) := ⟨h1, .inr ⟨g, c, cur, rfl, hg, hh, h3, h4, h5, h6⟩⟩
      have hc := ho.cells (g := g) rfl (n * R.k + j) u (by
        refine R.cells_get (l ++ [x]) n (by rw [List.length_append, hl]; simp) j u ?_
        rw [List.getElem_append_right (by omega)]
        simpa [hl] using hu)
      rw [addr_add] at hc
      exact hc
/-- A row of another type stands behind the builder's write. -/
theorem own_others {w w' : World} {b base e e' size n : Nat} {v : Value} {xs : List Value} (h : w.ownsRow base e size v n xs) (hk : Lib.OthersKept e' (some b) w w') (he : e ≠ e') (hb : v.ownBlock ≠ some b) : w'.ownsRow base e size v n xs := by
  obtain ⟨h1, h2⟩ := h
  refine ⟨h1, ?_⟩
  rcases h2 with h2 | ⟨g, cap, cur, rfl, hg, hh, r⟩
  · exact .inl h2
  · refine .inr ⟨g, cap, cur, rfl, hg, hk g _ hh (fun e => hb (by rw [← e]; rfl)) (fun c fz e => ?_), r⟩
    cases e
    exact he rfl
/-- A builder's block, and a row's, are unlike. -/
theorem bld_apart {w : World} {B b base e size n : Nat} {v : Value} {xs : List Value} {l : List UInt8} (h : Bld B b l w) (ho : w.ownsRow base e size v n xs) (he : e ≠ 100) : v.ownBlock ≠ some b := by
  obtain ⟨p, q, hb⟩ : ∃ p q, w.heap[b]? = some (.cells #[p, q] 100 (0, 0)) := by
    rcases h with h | h <;> obtain ⟨_, v', hb, _⟩ := h <;> exact ⟨_, _, hb⟩
  rcases ho.2 with ⟨rfl, _⟩ | ⟨g, cap, cur, rfl, hg, hh, _⟩
  · intro c; cases c
  · intro c
    obtain rfl : g = b := Option.some.inj c
    rw [hb] at hh
    simp only [Option.some.injEq, Obj.cells.injEq] at hh
    exact he hh.2.1.symm
/-- A builder stands while a row of another type grows. -/
theorem bld_others {w w' : World} {B b base e size n : Nat} {v : Value} {xs : List Value} {l : List UInt8} (h : Bld B b l w) (ho : w.ownsRow base e size v n xs) (he : e ≠ 100) (he8 : e ≠ 5) (hk : ∀ k, k < w.heap.size → v.ownBlock ≠ some k → w'.heap[k]? = w.heap[k]?) : Bld B b l w' := by
  have key : ∀ p, Lib.BuilderAtF 100 5 B b p (Lib.byteCells l) w → Lib.BuilderAtF 100 5 B b p (Lib.byteCells l) w' := by
    rintro p ⟨hB, v', hb, hown, hne⟩
    have hlt : b < w.heap.size := (Array.getElem?_eq_some_iff.1 hb).1
    refine ⟨hB, v', (hk b hlt (bld_apart h ho he)).trans hb, ⟨hown.1, ?_⟩, hne⟩
    rcases hown.2 with hn | ⟨g, cap, cur, fz, hv, hbg, hg, rest⟩
    · exact .inl hn
    · refine .inr ⟨g, cap, cur, fz, hv, hbg, (hk g (Array.getElem?_eq_some_iff.1 hg).1 ?_).trans hg, rest⟩
      rcases ho.2 with ⟨rfl, _⟩ | ⟨g', cap', cur', rfl, _, hh, _⟩
      · intro c; cases c
      · intro c
        obtain rfl : g' = g := Option.some.inj c
        rw [hg] at hh
        simp only [Option.some.injEq, Obj.cells.injEq] at hh
        exact he8 hh.2.1.symm
  exact h.elim (fun x => .inl (key _ x)) (fun x => .inr (key _ x))
/-- .. while new memory comes. -/
theorem bld_below {w w' : World} {B b : Nat} {l : List UInt8} (h : Bld B b l w) (hb : Below w.heap.size w w') : Bld B b l w' :=
  bld_others h (World.ownsRow_nil w 0 999999 1) (by decide) (by decide) (fun k hk _ => hb.block k hk)
/-- What a row of pieces holds. -/
def rdPc (w : World) (g i : Nat) : Pc := ((match w.cell? ⟨g, i * 2, none⟩ with | some (.string s) => s.data.toList | _ => []), (match w.cell? ⟨g, i * 2 + 1, none⟩ with | some (.int _ x) => x | _ => 0))
def rdL (w : World) (v : Value) : List Pc := match v with
  | .slice (some a) n _ => (List.range n).map (rdPc w a.block)
  | _ => []
theorem rdL_own {w : World} {base n : Nat} {v : Value} {L : List Pc} (h : w.ownsRow base 145 2 v n (pcR.cells L)) (hl : L.length = n) : rdL w v = L := by
  by_cases hn : n = 0
  · subst hn
    obtain rfl := List.eq_nil_of_length_eq_zero hl
    rcases h.2 with ⟨rfl, _⟩ | ⟨g, cap, cur, rfl, _⟩ <;> rfl
  · obtain ⟨g, c, rfl, -, -, hr⟩ := pcRow_own h hl hn
    refine List.ext_getElem? (fun i => ?_)
    simp only [rdL, List.getElem?_map]
    by_cases hi : i < n
    · rw [List.getElem?_range hi]
      obtain ⟨c0, c1, -, -⟩ := hr i L[i] (List.getElem?_eq_getElem (by omega))
      rw [List.getElem?_eq_getElem (by omega)]
      simp only [Option.map_some, rdPc, c0, c1]
    · rw [List.getElem?_eq_none (by simp; omega), List.getElem?_eq_none (by omega)]
      rfl
theorem pc_len (E : List PCheck.Xp) (L : List Pc) : L.length ≤ PShow.cntP E L := by
  induction L with
  | nil => exact Nat.zero_le _
  | cons c L ih =>
    unfold PShow.cntP at *
    simp only [List.map_cons, List.sum_cons, List.length_cons]
    omega
/-- 's = append(s, x...)', s a row of the call's own, x a slice that reads as a list; every other block stands. -/
theorem append_kept {α : Type} {R : Rec α} {e t : TypeId} {bytes : Nat} (T : RecTy R e t bytes) {w : World} {ops : Array Oper} {rest : List Oper} {o : Oper} {a : Act} {Q : Exit → Act → World → Prop} (hgd : o.guard = none) (s x : Operand)
    (ho : o.op = .call { callee := .builtin .append, args := #[s, x], argTypes := #[t, t] })
    (base : Nat) (v : Value) (n : Nat) (l : List α) (hs : a.eval s = v) (hown : w.ownsRow base e R.k v n (R.cells l))
    (ad : Addr) (m c : Nat) (xs : List α) (hx : a.eval x = .slice (some ad) m c) (hsl : SlX R w (some ad) m xs) (hn : n + m ≤ 100000) (hbase : base ≤ w.heap.size)
    (h : ∀ v' w', w'.ownsRow base e R.k v' (n + m) (R.cells (l ++ xs)) → Below base w w' → (∀ k, k < w.heap.size → v.ownBlock ≠ some k → w'.heap[k]? = w.heap[k]?) → wpList Tryz.prog ops Q rest (a.put o.dst v') w') :
    wpList Tryz.prog ops Q (o :: rest) a w := by
  obtain ⟨z, hz, hzs⟩ := T.info
  obtain ⟨i0, hi, hz0, hz1, hz2⟩ := info_parts hz
  obtain ⟨h1, h2⟩ := hsl
  refine wpList_append_own w hgd s x t ho base e i0 z R.k bytes T.under hi hz0 hz1 hz2 hzs R.pos v n _ hs hown ad m c (R.cells xs) hx (by rw [R.cells_len, h1]) (fun j u hj => ?_) (R.cells_one' xs) (by unfold maxLen; omega) ?_ hbase (fun v' w' ho' hg _ => h v' w' ?_ ?_ (fun k hk hne => hg.block k hk (fun e => hne e.symm)))
  · obtain ⟨i, hi', q, rfl, hq⟩ := R.cells_at xs j u hj
    rcases h2 with h2 | ⟨b, off, e, hcell⟩
    · omega
    · cases e
      rw [addr_add', ← hcell i hi' q u hq, Nat.add_assoc]
  · have := Nat.mul_le_mul hn T.few; omega
  · rw [R.cells_append]; exact ho'
  · exact (Below.refl _ _).grown hg hbase (fun k hk => (hown.lt k hk).1)
theorem pcs_ne (g : Int → Nat) (x : PCheck.Xp) : (PShow.pieces g x).length ≠ 0 := by
  rw [pieces_un]
  by_cases h : prt x.op = []
  · rw [if_pos h]; simp
  · rw [if_neg h]; simp
end Go.Proofs.YtfihdbnecepmfaaGreatDoor
