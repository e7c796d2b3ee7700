/-
  What the library's strings.Builder answers in the landed show: a string is written behind what it holds; what else the call has laid stands as it stood.
  A row of pieces of the call's own, of which the last one is taken; it and a builder stand while the other one grows. What a row holds, read anew (for a loop's measure).
  What the landed show writes: the text of an expression, behind what the builder holds.
-/
import Derived.Test.YtdkcdgjpcojdfaaGreatDoorCheckRowsG
import Derived.Test.YtdkcdgjpcojdfaaGreatDoorShelf
import Derived.Lib.FrozenHead2
import Derived.Lib.OthersKept
import Derived.Test.YtdkcdgjpcojdfaaGreatDoorRV

set_option linter.unusedVariables false
namespace Go.Proofs.YtdkcdgjpcojdfaaGreatDoor
open Go.RowKit

theorem sizeBld : (Tryz.prog.info? 150).map (·.size) = some 2 := by kernel_rfl
theorem liesBld : liesAt Tryz.prog Tryz.prog.depth 150 (2 / Tryz.prog.cellsOf 150) 0 150 1 = true := by kernel_rfl
theorem infoU8 : (Tryz.prog.info? 5).map (fun i => (i.zero, i.size, i.bytes)) = some (some (.int .u8 0), 1, 1) := by kernel_rfl

set_option maxHeartbeats 1000000 in
set_option maxRecDepth 100000 in
theorem bcheck_used (b : Nat) (w : World) (h0 : w.cell? ⟨b, 0, none⟩ = some (.pointer (some ⟨b, 0, none⟩))) :
    Calls Tryz.prog 107 #[.pointer (some ⟨b, 0, none⟩)] w fun e w' => e = .returned (.tuple #[]) ∧ w' = w := by
  obtain ⟨j, hj, _⟩ := Option.map_eq_some_iff.1 sizeBld
  go_enter Tryz.func107, Tryz.ntmps107
  go_wp2
  rw [Lib.run_neq_ptr_same w _ Tryz.underlying148 hj]
  go_wp2
  go_end0
  exact ⟨rfl, rfl⟩

set_option maxHeartbeats 1000000 in
set_option maxRecDepth 100000 in
theorem bcheck_fresh (b : Nat) (w : World) (h0 : w.cell? ⟨b, 0, none⟩ = some (.pointer none)) (hsh : w.shape? b = some (150, 2)) (hfz : w.frozen? ⟨b, 0, none⟩ = false) :
    Calls Tryz.prog 107 #[.pointer (some ⟨b, 0, none⟩)] w fun e w' => e = .returned (.tuple #[]) ∧ w' = w.setCell ⟨b, 0, none⟩ (.pointer (some ⟨b, 0, none⟩)) := by
  obtain ⟨j, hj, hjs⟩ := Option.map_eq_some_iff.1 sizeBld
  go_enter Tryz.func107, Tryz.ntmps107
  go_wp2
  rw [Lib.run_to_unsafe w ⟨b, 0, none⟩ Tryz.underlying148 Tryz.underlying180 hj (by rw [hjs]; decide) hsh (Nat.zero_lt_succ 1)]
  simp only [Result.andThen]
  rw [Oper.upon_value]
  go_wp2
  rw [run_callFunc_extern Tryz.func119 (by kernel_rfl) (by kernel_rfl) (by kernel_rfl) (e := Extern.AbiNoEscape.same) (by kernel_rfl)]
  rw [Lib.run_noEscape]
  simp only [Result.andThen]
  rw [Oper.upon_value]
  go_wp2
  rw [Lib.run_from_unsafe w ⟨b, 0, none⟩ Tryz.underlying180 Tryz.underlying148 hj hsh liesBld]
  simp only [Result.andThen]
  rw [Oper.upon_value]
  go_wp2
  go_end0
  exact ⟨rfl, rfl⟩

def Bld (B b : Nat) (l : List UInt8) (w : World) : Prop := Lib.IsBuilderF 150 5 B b (Lib.byteCells l) w

theorem bcheck_any (B b : Nat) (bs : List Value) (w : World) (h : Lib.IsBuilderF 150 5 B b bs w) :
    Calls Tryz.prog 107 #[.pointer (some ⟨b, 0, none⟩)] w fun e w' => e = .returned (.tuple #[]) ∧ (Lib.BuilderAtF 150 5 B b (.pointer (some ⟨b, 0, none⟩)) bs w' ∧ Below B w w' ∧ Lib.OthersKept 5 (some b) w w') := by
  rcases h with h | h
  · refine (bcheck_fresh b w h.cell0 h.shape h.frozen0).mono ?_
    rintro e w' ⟨rfl, rfl⟩
    exact ⟨rfl, h.used _, (Below.refl B w).setCell (p := ⟨b, 0, none⟩) h.1 _, (Lib.OthersKept.refl _ _ w).setCell ⟨b, 0, none⟩ rfl _⟩
  · refine (bcheck_used b w h.cell0).mono ?_
    rintro e w' ⟨rfl, rfl⟩
    exact ⟨rfl, h, Below.refl B _, Lib.OthersKept.refl _ _ _⟩

theorem strCells_bytes (l s : List UInt8) : Lib.byteCells l ++ Lib.strCells ⟨s.toArray⟩ = Lib.byteCells (l ++ s) := by
  simp [Lib.byteCells, Lib.strCells]

set_option maxHeartbeats 2000000 in
set_option maxRecDepth 100000 in
/-- WriteString: what was written stands behind what stood there; of all other blocks of unlike rows nothing changes. -/
theorem bwrite_any (B b : Nat) (l s : List UInt8) (w : World) (h : Bld B b l w) (hlen : l.length + s.length ≤ 140737488355328) (hBw : B ≤ w.heap.size) :
    Calls Tryz.prog 89 #[.pointer (some ⟨b, 0, none⟩), .string ⟨s.toArray⟩] w fun e w' => e = .returned (.tuple #[.int .i64 s.length, .nilIface]) ∧ (Bld B b (l ++ s) w' ∧ Below B w w' ∧ Lib.OthersKept 5 (some b) w w') := by
  obtain ⟨i0, hi, hz0, hz1, hz2⟩ := info_parts infoU8
  have hsz : (ByteArray.mk s.toArray).size = s.length := by simp [ByteArray.size]
  have hbl : (Lib.byteCells l).length = l.length := Lib.byteCells_length l
  obtain ⟨S, hS⟩ : ∃ S, (ByteArray.mk s.toArray) = S := ⟨_, rfl⟩
  rw [hS] at hsz ⊢
  have HS := Lib.hid hS
  clear hS
  go_enter Tryz.func89, Tryz.ntmps89
  go_wp2_with (go_at_call 107; refine (bcheck_any B b _ _ h).mono ?_)
  rintro e w1 ⟨rfl, h1, hb1, hk1⟩
  obtain ⟨hB, v, hbk, hown, hne⟩ := h1
  have c0 : w1.cell? ⟨b, 0, none⟩ = some (.pointer (some ⟨b, 0, none⟩)) := by rw [Lib.cell_of_heap hbk]; rfl
  have c1 : w1.cell? ⟨b, 1, none⟩ = some v := by rw [Lib.cell_of_heap hbk]; rfl
  go_wp2_with (at_builtin; refine Lib.wpList_append_own_stringF _ rfl _ _ 105 9 rfl B 5 i0 Tryz.underlying105 Tryz.underlying9 hi hz0 hz1 hz2 _ _ _ rfl hown S rfl ?c3 ?c4 ?c5 ?_)
  case c3 => unfold maxLen; omega
  case c4 => omega
  case c5 => have := hb1.size; omega
  intro v' w2 hown' hgrow _
  have hlt : b < w1.heap.size := (Array.getElem?_eq_some_iff.1 hbk).1
  have hb2 : w2.heap[b]? = some (.cells #[.pointer (some ⟨b, 0, none⟩), v] 150 (0, 0)) := by
    rw [hgrow.block b hlt (fun e => hne e.symm)]
    exact hbk
  have d0 : w2.cell? ⟨b, 0, none⟩ = some (.pointer (some ⟨b, 0, none⟩)) := by rw [Lib.cell_of_heap hb2]; rfl
  have d1 : w2.cell? ⟨b, 1, none⟩ = some v := by rw [Lib.cell_of_heap hb2]; rfl
  have f1 : w2.frozen? ⟨b, 1, none⟩ = false := Lib.frozen_of_heap hb2 1
  obtain ⟨ao, n', cap, rfl⟩ : ∃ ao n' cap, v' = .slice ao n' cap := by
    rcases hown'.2 with ⟨hv, _⟩ | ⟨g, cap, cur, fz, hv, _⟩
    · exact ⟨_, _, _, hv⟩
    · exact ⟨_, _, _, hv⟩
  go_wp2
  go_ret2
  refine ⟨rfl, .inr ?_, ?_, (hk1.grown hgrow (Lib.ownsRowF_kind hown)).setCell ⟨b, 1, none⟩ rfl _⟩
  · rw [← strCells_bytes, HS.out]
    exact Lib.BuilderAtF.put (T := 150) (e := 5) hB hb2 (bs' := Lib.byteCells l ++ Lib.strCells S) (by rw [List.length_append, hbl, Lib.strCells_length, hsz]; exact hown') (by decide)
  · exact (hb1.grown hgrow (by have := hb1.size; omega) (fun k hk => (hown.lt k hk).1)).setCell (p := ⟨b, 1, none⟩) hB _

end Go.Proofs.YtdkcdgjpcojdfaaGreatDoor

set_option linter.unusedVariables false
namespace Go.Proofs.YtdkcdgjpcojdfaaGreatDoor
open Go.RowKit
open PShow (Pc)

theorem own_last {α : Type} {R : Rec α} {w : World} {base e n : Nat} {v : Value} {l : List α} {x : α} (h : w.ownsRow base e R.k v (n + 1) (R.cells (l ++ [x]))) (hl : l.length = n) :
    ∃ g c, v = .slice (some ⟨g, 0, none⟩) (n + 1) c ∧ n + 1 ≤ c ∧ w.ownsRow base e R.k (.slice (some ⟨g, 0, none⟩) n c) n (R.cells l) ∧ ∀ (j : Nat) (u : Value), (R.C x)[j]? = some u → w.cell? ⟨g, n * R.k + j, none⟩ = some u := by
  obtain ⟨h1, h2⟩ := h
  rcases h2 with ⟨rfl, h2⟩ | ⟨g, c, cur, rfl, hg, hh, h3, h4, h5, h6⟩
  · omega
  · have e1 : (R.cells (l ++ [x])).length = (R.cells l).length + (R.cells [x]).length := by rw [R.cells_append, List.length_append]
    refine ⟨g, c, rfl, h3, ⟨by rw [R.cells_len, hl], .inr ⟨g, c, cur, rfl, hg, hh, by omega, h4, h5, ?_⟩⟩, ?_⟩
    · have h7 := congrArg (List.take (R.cells l).length) h6
      rw [List.take_take, Nat.min_eq_left (by rw [← h1, e1]; omega), R.cells_append, List.take_left] at h7
      rw [R.cells_len, hl] at h7
      exact h7
    · intro j u hu
      have hj : j < R.k := by rw [← R.len x]; exact (List.getElem?_eq_some_iff.1 hu).1
      have ho : w.ownsRow base e R.k (.slice (some ⟨g, 0, none⟩) (n + 1) c) (n + 1) (R.cells (l ++ [x])) := ⟨h1, .inr ⟨g, c, cur, rfl, hg, hh, h3, h4, h5, h6⟩⟩
      have hc := ho.cells (g := g) rfl (n * R.k + j) u (by
        refine R.cells_get (l ++ [x]) n (by rw [List.length_append, hl]; simp) j u ?_
        rw [List.getElem_append_right (by omega)]
        simpa [hl] using hu)
      rw [addr_add] at hc
      exact hc
theorem own_others {w w' : World} {b base e e' size n : Nat} {v : Value} {xs : List Value} (h : w.ownsRow base e size v n xs) (hk : Lib.OthersKept e' (some b) w w') (he : e ≠ e') (hb : v.ownBlock ≠ some b) : w'.ownsRow base e size v n xs := by
  obtain ⟨h1, h2⟩ := h
  refine ⟨h1, ?_⟩
  rcases h2 with h2 | ⟨g, cap, cur, rfl, hg, hh, r⟩
  · exact .inl h2
  · refine .inr ⟨g, cap, cur, rfl, hg, hk g _ hh (fun e => hb (by rw [← e]; rfl)) (fun c fz e => ?_), r⟩
    cases e
    exact he rfl
theorem bld_apart {w : World} {B b base e size n : Nat} {v : Value} {xs : List Value} {l : List UInt8} (h : Bld B b l w) (ho : w.ownsRow base e size v n xs) (he : e ≠ 150) : v.ownBlock ≠ some b := by
  obtain ⟨p, q, hb⟩ : ∃ p q, w.heap[b]? = some (.cells #[p, q] 150 (0, 0)) := by
    rcases h with h | h <;> obtain ⟨_, v', hb, _⟩ := h <;> exact ⟨_, _, hb⟩
  rcases ho.2 with ⟨rfl, _⟩ | ⟨g, cap, cur, rfl, hg, hh, _⟩
  · intro c; cases c
  · intro c
    obtain rfl : g = b := Option.some.inj c
    rw [hb] at hh
    simp only [Option.some.injEq, Obj.cells.injEq] at hh
    exact he hh.2.1.symm
theorem bld_others {w w' : World} {B b base e size n : Nat} {v : Value} {xs : List Value} {l : List UInt8} (h : Bld B b l w) (ho : w.ownsRow base e size v n xs) (he : e ≠ 150) (he8 : e ≠ 5) (hk : ∀ k, k < w.heap.size → v.ownBlock ≠ some k → w'.heap[k]? = w.heap[k]?) : Bld B b l w' := by
  have key : ∀ p, Lib.BuilderAtF 150 5 B b p (Lib.byteCells l) w → Lib.BuilderAtF 150 5 B b p (Lib.byteCells l) w' := by
    rintro p ⟨hB, v', hb, hown, hne⟩
    have hlt : b < w.heap.size := (Array.getElem?_eq_some_iff.1 hb).1
    refine ⟨hB, v', (hk b hlt (bld_apart h ho he)).trans hb, ⟨hown.1, ?_⟩, hne⟩
    rcases hown.2 with hn | ⟨g, cap, cur, fz, hv, hbg, hg, rest⟩
    · exact .inl hn
    · refine .inr ⟨g, cap, cur, fz, hv, hbg, (hk g (Array.getElem?_eq_some_iff.1 hg).1 ?_).trans hg, rest⟩
      rcases ho.2 with ⟨rfl, _⟩ | ⟨g', cap', cur', rfl, _, hh, _⟩
      · intro c; cases c
      · intro c
        obtain rfl : g' = g := Option.some.inj c
        rw [hg] at hh
        simp only [Option.some.injEq, Obj.cells.injEq] at hh
        exact he8 hh.2.1.symm
  exact h.elim (fun x => .inl (key _ x)) (fun x => .inr (key _ x))
theorem bld_below {w w' : World} {B b : Nat} {l : List UInt8} (h : Bld B b l w) (hb : Below w.heap.size w w') : Bld B b l w' :=
  bld_others h (World.ownsRow_nil w 0 999999 1) (by decide) (by decide) (fun k hk _ => hb.block k hk)
def rdPc (w : World) (g i : Nat) : Pc := ((match w.cell? ⟨g, i * 2, none⟩ with | some (.string s) => s.data.toList | _ => []), (match w.cell? ⟨g, i * 2 + 1, none⟩ with | some (.int _ x) => x | _ => 0))
def rdL (w : World) (v : Value) : List Pc := match v with
  | .slice (some a) n _ => (List.range n).map (rdPc w a.block)
  | _ => []
theorem rdL_own {w : World} {base n : Nat} {v : Value} {L : List Pc} (h : w.ownsRow base 174 2 v n (pcR.cells L)) (hl : L.length = n) : rdL w v = L := by
  by_cases hn : n = 0
  · subst hn
    obtain rfl := List.eq_nil_of_length_eq_zero hl
    rcases h.2 with ⟨rfl, _⟩ | ⟨g, cap, cur, rfl, _⟩ <;> rfl
  · obtain ⟨g, c, rfl, -, -, hr⟩ := pcRow_own h hl hn
    refine List.ext_getElem? (fun i => ?_)
    simp only [rdL, List.getElem?_map]
    by_cases hi : i < n
    · rw [List.getElem?_range hi]
      obtain ⟨c0, c1, -, -⟩ := hr i L[i] (List.getElem?_eq_getElem (by omega))
      rw [List.getElem?_eq_getElem (by omega)]
      simp only [Option.map_some, rdPc, c0, c1]
    · rw [List.getElem?_eq_none (by simp; omega), List.getElem?_eq_none (by omega)]
      rfl
theorem pc_len (E : List PCheck.Xp) (L : List Pc) : L.length ≤ PShow.cntP E L := by
  induction L with
  | nil => exact Nat.zero_le _
  | cons c L ih =>
    unfold PShow.cntP at *
    simp only [List.map_cons, List.sum_cons, List.length_cons]
    omega
theorem append_kept {α : Type} {R : Rec α} {e t : TypeId} {bytes : Nat} (T : RecTy R e t bytes) {w : World} {ops : Array Oper} {rest : List Oper} {o : Oper} {a : Act} {Q : Exit → Act → World → Prop} (hgd : o.guard = none) (s x : Operand)
    (ho : o.op = .call { callee := .builtin .append, args := #[s, x], argTypes := #[t, t] })
    (base : Nat) (v : Value) (n : Nat) (l : List α) (hs : a.eval s = v) (hown : w.ownsRow base e R.k v n (R.cells l))
    (ad : Addr) (m c : Nat) (xs : List α) (hx : a.eval x = .slice (some ad) m c) (hsl : SlX R w (some ad) m xs) (hn : n + m ≤ 100000) (hbase : base ≤ w.heap.size)
    (h : ∀ v' w', w'.ownsRow base e R.k v' (n + m) (R.cells (l ++ xs)) → Below base w w' → (∀ k, k < w.heap.size → v.ownBlock ≠ some k → w'.heap[k]? = w.heap[k]?) → wpList Tryz.prog ops Q rest (a.put o.dst v') w') :
    wpList Tryz.prog ops Q (o :: rest) a w := by
  obtain ⟨z, hz, hzs⟩ := T.info
  obtain ⟨i0, hi, hz0, hz1, hz2⟩ := info_parts hz
  obtain ⟨h1, h2⟩ := hsl
  refine wpList_append_own w hgd s x t ho base e i0 z R.k bytes T.under hi hz0 hz1 hz2 hzs R.pos v n _ hs hown ad m c (R.cells xs) hx (by rw [R.cells_len, h1]) (fun j u hj => ?_) (R.cells_one' xs) (by unfold maxLen; omega) ?_ hbase (fun v' w' ho' hg _ => h v' w' ?_ ?_ (fun k hk hne => hg.block k hk (fun e => hne e.symm)))
  · obtain ⟨i, hi', q, rfl, hq⟩ := R.cells_at xs j u hj
    rcases h2 with h2 | ⟨b, off, e, hcell⟩
    · omega
    · cases e
      rw [addr_add', ← hcell i hi' q u hq, Nat.add_assoc]
  · have := Nat.mul_le_mul hn T.few; omega
  · rw [R.cells_append]; exact ho'
  · exact (Below.refl _ _).grown hg hbase (fun k hk => (hown.lt k hk).1)
theorem pcs_ne (g : Int → Nat) (x : PCheck.Xp) : (PShow.pieces g x).length ≠ 0 := by
  rw [pieces_un]
  by_cases h : prt x.op = []
  · rw [if_pos h]; simp
  · rw [if_neg h]; simp
end Go.Proofs.YtdkcdgjpcojdfaaGreatDoor

set_option linter.unusedVariables false
namespace Go.Proofs.YtdkcdgjpcojdfaaGreatDoor
open Go.RowKit
open PCheck (Xp)
open PShow (Pc)

def txP (E : List Xp) (p : Int) : List UInt8 := PShow.tx E p.toNat
structure Left (E : List Xp) (n : Nat) (all done : List UInt8) (K : List Pc) : Prop where
  text : done ++ PShow.pcsT (txP E) K = all
  at' : ∀ c ∈ K, c.2 = -1 ∨ (0 ≤ c.2 ∧ c.2 < (n : Int))
  few : PShow.cntP E K ≤ 10000
theorem Left.step0 {E : List Xp} {n : Nat} {all done s : List UInt8} {K : List Pc} (h : Left E n all done ((s, -1) :: K)) : Left E n all (done ++ s) K where
  text := by rw [List.append_assoc, ← PShow.step_tx0]; exact h.text
  at' := fun c hc => h.at' c (List.mem_cons_of_mem _ hc)
  few := by have := h.few; rw [PShow.step_cnt0] at this; omega
theorem Left.step {E : List Xp} (hE : PShow.Ahead E) {n : Nat} (hn : E.length = n) {all done s : List UInt8} {K : List Pc} {i : Nat} {x : Xp} (hx : E[i]? = some x) (h : Left E n all done ((s, (i : Int)) :: K)) : Left E n all (done ++ s) (PShow.pieces (PShow.rkAt E) x ++ K) where
  text := by rw [List.append_assoc, show txP E = fun p => PShow.tx E p.toNat from rfl, ← PShow.step_tx hE hx]; exact h.text
  at' := by
    intro c hc
    rcases List.mem_append.1 hc with hc | hc
    · rcases PShow.pieces_at hc with e | ⟨f, hf, hm⟩
      · exact .inl e
      · obtain ⟨h1, h2⟩ := hE i x f hx hf _ hm
        have := (List.getElem?_eq_some_iff.1 hx).1
        exact .inr ⟨h1, by omega⟩
    · exact h.at' c (List.mem_cons_of_mem _ hc)
  few := by have := h.few; rw [PShow.step_cnt hE hx] at this; omega
theorem Left.len {E : List Xp} {n : Nat} {all done s : List UInt8} {p : Int} {K : List Pc} (h : Left E n all done ((s, p) :: K)) : done.length + s.length ≤ all.length := by
  rw [← h.text, PShow.pcsT_cons]
  unfold PShow.pcT
  simp only [List.length_append]
  omega
theorem places_prt {E : List Xp} (hE : PShow.Ahead E) {n i : Nat} (hn : E.length = n) {x : Xp} (hx : E[i]? = some x) : ∀ p ∈ (PShow.places x).take (prt x.op).length, 0 ≤ p ∧ p < (n : Int) := by
  unfold prt
  cases hf : PShow.formOf x.op with
  | none => intro p hp; cases hp
  | some f =>
    intro p hp
    obtain ⟨h1, h2⟩ := hE i x f hx hf p hp
    have := (List.getElem?_eq_some_iff.1 hx).1
    exact ⟨h1, by omega⟩
def WrAns (B b : Nat) (all : List UInt8) (w : World) (e : Ending) (w' : World) : Prop := e = .returned (.tuple #[]) ∧ Bld B b all w' ∧ Below B w w'

set_option maxHeartbeats 6400000 in
set_option maxRecDepth 100000 in
theorem kwrite_any {w : World} {B b n c root : Nat} {A : Option Addr} {l : List UInt8} {E : List Xp} (hB : Bld B b l w) (hBw : B ≤ w.heap.size) (hK : ∀ w', Below B w w' → SlX xpR w' A n E ∧ Tab w') (hA : PShow.Ahead E)
    (hv : ∀ x ∈ E, -9223372036854775808 ≤ x.value ∧ x.value ≤ 9223372036854775807) (hr : root < n) (hc : PShow.cnt E root < 10000) (hlen : l.length + (PShow.tx E root).length ≤ 140737488355328) :
    Calls Tryz.prog 90 #[.pointer (some ⟨b, 0, none⟩), .slice A n c, .int .i64 (root : Nat)] w (WrAns B b (l ++ PShow.tx E root) w) := by
  obtain ⟨all, hall⟩ : ∃ all, l ++ PShow.tx E root = all := ⟨_, rfl⟩
  rw [hall]
  have hn : E.length = n := (hK w (Below.refl _ _)).1.1
  have hal : all.length ≤ 140737488355328 := by rw [← hall, List.length_append]; exact hlen
  have L0 : Left E n all l [([], (root : Int))] := by
    refine ⟨?_, ?_, ?_⟩
    · rw [← hall]; simp [PShow.pcsT, PShow.pcT, txP]
    · intro x hx; rw [List.mem_singleton.1 hx]; exact .inr ⟨by omega, by show (root : Int) < n; omega⟩
    · simp only [PShow.cntP, List.map_cons, List.map_nil, List.sum_cons, List.sum_nil]
      rw [if_neg (by omega)]
      simp only [Int.toNat_natCast]; omega
  obtain ⟨Q, hQ⟩ : ∃ Q, WrAns B b all w = Q := ⟨_, rfl⟩
  rw [hQ]
  have FIN : Hid (∀ w', Bld B b all w' → Below B w w' → Q (.returned (.tuple #[])) w') := Lib.hid (fun w' a b => by rw [← hQ]; exact ⟨rfl, a, b⟩)
  obtain ⟨H, hH⟩ : ∃ H, w.heap.size = H := ⟨_, rfl⟩
  have HL0 := Lib.hid L0; have HB := Lib.hid hB; have HK := Lib.hid hK; have HA := Lib.hid hA; have HV := Lib.hid hv; have HN := Lib.hid hn; have HAL := Lib.hid hal; have HBW := Lib.hid hBw
  have OW : Hid ((w.alloc (.cells #[.string { data := #[] }, .int .i64 (root : Nat)] 174)).ownsRow H 174 2 (.slice (some ⟨w.heap.size, 0, none⟩) 1 1) 1 (pcR.cells [([], (root : Int))])) := Lib.hid (own_built pcR w 174 [([], (root : Int))] (by omega) (show 1 ≤ maxLen by decide))
  have BW : Hid (Below H w (w.alloc (.cells #[.string { data := #[] }, .int .i64 (root : Nat)] 174))) := Lib.hid ((Below.refl _ _).alloc (by omega) _)
  have HH := Lib.hid hH
  clear hB hBw hK hA hv hr hc hlen hall hn hal L0 hH hQ
  go_enter Tryz.func90, Tryz.ntmps90
  go_wp2_with fail
  go_loopw [6] (fun v wx => ∃ K : List Pc, ∃ done : List UInt8, Hid (wx.ownsRow H 174 2 v K.length (pcR.cells K.reverse)) ∧ Hid (Bld B b done wx) ∧ Hid (Below B w wx) ∧ Hid (H ≤ wx.heap.size) ∧ Hid (Left E n all done K)) (fun v wx => PShow.cntP E (rdL wx v))
  case atStart => exact ⟨[([], (root : Int))], l, OW, Lib.hid (bld_below HB.out (by rw [HH.out]; exact BW.out)), Lib.hid (BW.out.mono (by have := HBW.out; have := HH.out; omega)), Lib.hid (by have := BW.out.size; have := HH.out; omega), HL0⟩
  case round =>
    obtain ⟨K, done, I1, I2, I3, I4, I5⟩ := hrel
    have HBH : Hid (B ≤ H) := Lib.hid (by have := HBW.out; have := HH.out; omega)
    cases K with
    | nil =>
      obtain ⟨A0, c0, rfl, -⟩ := own_slice I1.out
      have L := I5.out.text
      have FB : Hid (Bld B b all wr) := Lib.hid (by rw [← L]; simpa [PShow.pcsT] using I2.out)
      clear I1 L
      simp only [List.length_nil]
      go_wp2_with fail
      go_end0
      exact FIN.out _ FB.out I3.out
    | cons x K' =>
      obtain ⟨s, p⟩ := x
      obtain ⟨m, hm⟩ : ∃ m, K'.length = m := ⟨_, rfl⟩
      have hm2 : K'.reverse.length = m := by rw [List.length_reverse, hm]
      have hmu : PShow.cntP E (rdL wr u6) = PShow.cntP E ((s, p) :: K') := by rw [rdL_own I1.out (by simp), PShow.cntP_rev]
      have hfew := I5.out.few
      have hpl := pc_len E ((s, p) :: K')
      have hslen := I5.out.len
      have hO := I1.out
      rw [List.length_cons, hm, List.reverse_cons] at hO
      rw [List.length_cons, hm] at hpl
      have hm3 : m ≤ 10000 := by omega
      obtain ⟨g, cc, rfl, hmc, own1, cells1⟩ := own_last hO hm2
      have c0 : wr.cell? ⟨g, m * 2, none⟩ = some (.string ⟨s.toArray⟩) := cells1 0 _ rfl
      have c1 : wr.cell? ⟨g, m * 2 + 1, none⟩ = some (.int .i64 p) := cells1 1 _ rfl
      obtain ⟨w9, hw9, SB, b9⟩ : ∃ w9, wr.alloc (.cells #[.string { data := #[] }, .int .i64 0] 174) = w9 ∧ Box w9 wr.heap.size [.string { data := #[] }, .int .i64 0] ∧ Below wr.heap.size wr w9 := ⟨_, rfl, Box.new _ _ [.string { data := #[] }, .int .i64 0], (Below.refl _ _).alloc (Nat.le_refl _) _⟩
      obtain ⟨w10, hw10, ON10⟩ : ∃ w', ((w9.setCell ⟨wr.heap.size, 0, none⟩ (.string ⟨s.toArray⟩)).setCell ⟨wr.heap.size, 1, none⟩ (.int .i64 p)) = w' ∧ Only wr.heap.size w9 w' := ⟨_, rfl, ((Only.refl _ w9).set 0 _).set 1 _⟩
      have NX : w10.ownsRow wr.heap.size 174 2 (.slice (some ⟨wr.heap.size, 0, none⟩) 1 1) 1 [.string ⟨s.toArray⟩, .int .i64 p] := by
        have h0 := own_built pcR wr 174 [([], (0 : Int))] (Nat.le_refl _) (show 1 ≤ maxLen by decide)
        have h1 := (h0.stored 0 (.string ⟨s.toArray⟩)).1
        have h2 := (h1.stored 1 (.int .i64 p)).1
        rw [← hw10, ← hw9]
        exact h2
      have u0 : w10.cell? ⟨wr.heap.size, 0, none⟩ = some (.string ⟨s.toArray⟩) := NX.cellAt 0 (by decide)
      have u1 : w10.cell? ⟨wr.heap.size, 1, none⟩ = some (.int .i64 p) := NX.cellAt 1 (by decide)
      have b10 : Below wr.heap.size wr w10 := ON10.below (Nat.le_refl _) b9
      have hBr : B ≤ wr.heap.size := by have := HBH.out; have := I4.out; omega
      have OW1 := Lib.hid (own_kept own1 b10)
      have BL1 := Lib.hid (bld_below I2.out b10)
      have hs10 : wr.heap.size < w10.heap.size := (NX.lt _ rfl).2
      have nb : (Value.slice (some ⟨g, 0, none⟩) m cc).ownBlock ≠ some b := bld_apart BL1.out OW1.out (by decide)
      have nb2 : (Value.slice (some ⟨wr.heap.size, 0, none⟩) 1 1).ownBlock ≠ some b := bld_apart BL1.out NX (by decide)
      have HNB := Lib.hid nb; have HNB2 := Lib.hid nb2
      have BB := Lib.hid (I3.out.trans (b10.mono hBr))
      have WC := Lib.hid (bwrite_any B b done s w10 BL1.out (by have := HAL.out; omega) (by omega))
      have HMU := Lib.hid hmu; have HNX := Lib.hid NX; have HW10 := Lib.hid hw10; have HBR := Lib.hid hBr; have HS10 := Lib.hid hs10; have HM := Lib.hid hm; have HM2 := Lib.hid hm2
      have gm : (0 : Int) < (m : Int) + 1 := by omega
      obtain ⟨s0, s1⟩ := px2 SB
      obtain ⟨g0, g1⟩ := px2f SB
      have hs9 := SB.1
      clear hmu hfew hpl hslen hO own1 cells1 SB b9 NX ON10 b10 nb nb2 hw10 hm hm2 I1 I2 I3 hBr hs10
      rcases I5.out.at' (s, p) (List.mem_cons_self ..) with hp | ⟨hp0, hpn⟩
      · obtain rfl : p = -1 := hp
        go_upto_region 4 with fail
        rw [HW10.out]
        clear HW10 hw9 s0 s1 g0 g1 hs9
        go_wp2_with (go_at_call 89; refine WC.out.mono ?_)
        rintro e11 w11 ⟨rfl, bl11, be11, ok11⟩
        have NX11 := own_others HNX.out ok11 (by decide) HNB2.out
        have OW11 := Lib.hid (own_others OW1.out ok11 (by decide) HNB.out)
        have v0 : w11.cell? ⟨wr.heap.size, 0, none⟩ = some (.string ⟨s.toArray⟩) := NX11.cellAt 0 (by decide)
        have v1 : w11.cell? ⟨wr.heap.size, 1, none⟩ = some (.int .i64 (-1)) := NX11.cellAt 1 (by decide)
        have hsX : wr.heap.size < w11.heap.size := (NX11.lt _ rfl).2
        have HH11 := Lib.hid (show H ≤ w11.heap.size by have := I4.out; omega)
        have BL11 := Lib.hid bl11; have BE := Lib.hid (BB.out.trans be11)
        clear u0 u1 NX11 bl11 be11 ok11 HNX WC BB OW1 BL1 HNB HNB2 HS10
        go_wp2_with fail
        exact ⟨⟨K', done ++ s, Lib.hid (by rw [HM.out]; exact OW11.out), BL11, BE, HH11, Lib.hid I5.out.step0⟩, by rw [rdL_own OW11.out HM2.out, HMU.out, PShow.cntP_rev, PShow.step_cnt0]; omega⟩
      · obtain ⟨i, rfl⟩ : ∃ i : Nat, p = i := ⟨p.toNat, by have : 0 ≤ p := hp0; omega⟩
        have hi : i < n := by have : (i : Int) < n := hpn; omega
        have hiE : i < E.length := by rw [HN.out]; exact hi
        obtain ⟨x, hx⟩ : ∃ x, E[i]? = some x := ⟨_, List.getElem?_eq_getElem hiE⟩
        obtain ⟨P, hP⟩ : ∃ P, PShow.pieces (PShow.rkAt E) x = P := ⟨_, rfl⟩
        have hP7 : P.length ≤ 7 := by rw [← hP]; exact PShow.pieces_len _ x
        have hP0 : P.length ≠ 0 := by rw [← hP]; exact pcs_ne _ x
        have hvx := HV.out x (List.mem_iff_getElem?.2 ⟨i, hx⟩)
        have PC : Hid (∀ wa : World, Below B w wa → Calls Tryz.prog 108 #[.slice A n c, .int .i64 (i : Nat)] wa (PcAns P wa)) := Lib.hid (fun wa hb => by
          rw [← hP]
          obtain ⟨k1, k2⟩ := HK.out wa hb
          exact kpieces_any k1 hx k2 hvx.1 hvx.2 (places_prt HA.out HN.out hx))
        have I6 := I5.out.step HA.out HN.out hx
        have hst := PShow.step_cnt (s := s) HA.out hx K'
        rw [hP] at I6 hst
        have HI6 := Lib.hid I6; have HST := Lib.hid hst; have HP7 := Lib.hid hP7; have HP0 := Lib.hid hP0
        clear I5 I6 hst hP hx hiE hvx hp0 hpn hP7 hP0
        have hne : ((i : Int) == -1) = false := by rw [beq_eq_false_iff_ne]; omega
        go_upto_region 4 with fail
        rw [HW10.out]
        clear HW10 hw9 s0 s1 g0 g1 hs9
        go_wp2_with (go_at_call 89; refine WC.out.mono ?_)
        rintro e11 w11 ⟨rfl, bl11, be11, ok11⟩
        have NX11 := own_others HNX.out ok11 (by decide) HNB2.out
        have OW11 := Lib.hid (own_others OW1.out ok11 (by decide) HNB.out)
        have v0 : w11.cell? ⟨wr.heap.size, 0, none⟩ = some (.string ⟨s.toArray⟩) := NX11.cellAt 0 (by decide)
        have v1 : w11.cell? ⟨wr.heap.size, 1, none⟩ = some (.int .i64 (i : Int)) := NX11.cellAt 1 (by decide)
        have hsX : wr.heap.size < w11.heap.size := (NX11.lt _ rfl).2
        have HH11 := Lib.hid (show H ≤ w11.heap.size by have := I4.out; omega)
        have BL11 := Lib.hid bl11; have BE := Lib.hid (BB.out.trans be11)
        clear u0 u1 NX11 bl11 be11 ok11 HNX WC BB OW1 BL1 HNB HNB2 HS10
        go_wp2_with (go_at_call 108; refine (PC.out _ BE.out).mono ?_)
        intro e12 w12 hp12
        obtain ⟨v12, rfl, ow12, b12⟩ := hp12
        obtain ⟨q, hq⟩ : ∃ q, P.length = q := ⟨_, rfl⟩
        have hq7 := HP7.out
        have hq0 := HP0.out
        rw [hq] at ow12 hq7 hq0
        obtain ⟨g2, c2, rfl, hg2, hqc, pr12⟩ := pcRow_own ow12 hq hq0
        have RV := Lib.hid (krev_any pr12 hq (by omega) hqc)
        have HB12 := Lib.hid b12; have HG2 := Lib.hid hg2; have HQ0 := Lib.hid hq
        clear ow12 pr12 b12 hg2 hq hqc hq0 PC v0 v1 hsX
        go_wp2_with (go_at_call 109; refine RV.out.mono ?_)
        rintro e13 w13 ⟨rfl, pr13, on13⟩
        have b13 : Below w11.heap.size w11 w13 := on13.below HG2.out HB12.out
        have OW13 := Lib.hid (own_kept OW11.out b13)
        have BL13 := Lib.hid (bld_below BL11.out b13)
        have SX13 : SlX pcR w13 (some ⟨g2, 0, none⟩) q P.reverse := by
          have h := pr13.sl
          rw [List.length_reverse, HQ0.out] at h
          exact h
        have HSX := Lib.hid SX13
        have HB13 := Lib.hid b13
        clear SX13 pr13 on13 b13 RV
        go_wp2_with (at_builtin; refine append_kept show_pcTy rfl _ _ rfl H _ m K'.reverse (by rfl) OW13.out ⟨g2, 0, none⟩ q c2 P.reverse (by rfl) HSX.out (by omega) (by have := HH11.out; have := HB13.out.size; omega) ?_)
        intro v14 w14 own14 b14 k14
        have BL14 := Lib.hid (bld_others BL13.out OW13.out (by decide) (by decide) k14)
        have BE14 := Lib.hid ((BE.out.trans (HB13.out.mono (by have := HBH.out; have := HH11.out; omega))).trans (b14.mono HBH.out))
        have HH14 := Lib.hid (show H ≤ w14.heap.size by have := HH11.out; have := HB13.out.size; have := b14.size; omega)
        have OW14 : Hid (w14.ownsRow H 174 2 v14 (m + q) (pcR.cells (P ++ K').reverse)) := Lib.hid (by rw [List.reverse_append]; exact own14)
        clear own14 b14 k14
        go_wp2_with fail
        refine ⟨⟨P ++ K', done ++ s, Lib.hid ?_, BL14, BE14, HH14, HI6⟩, ?_⟩
        · rw [List.length_append, HM.out, HQ0.out, Nat.add_comm q m]; exact OW14.out
        · rw [rdL_own OW14.out (by rw [List.length_reverse, List.length_append, HM.out, HQ0.out]; omega), HMU.out, PShow.cntP_rev, HST.out]; omega
end Go.Proofs.YtdkcdgjpcojdfaaGreatDoor
