/-
  What the reference of layer 11 answers: the first rule whose name is there ahead of it.
  What the reference of layer 11 answers: the order of the rules of what was read, or the error.
-/
import Derived.Test.YtfihdbnecepmfaaGreatDoorRA
import Derived.Test.YtfihdbnecepmfaaGreatDoorRM

set_option linter.unusedVariables false
namespace Go.Proofs.YtfihdbnecepmfaaGreatDoor
open Go.RowKit
open PCheck (Xp Bd made)
open PTree (Tr Rl Ex Wf X0)

def nmR (RL : List Rw) : List (List UInt8) := RL.map (·.2.1)
theorem nmR_len (RL : List Rw) : (nmR RL).length = RL.length := by unfold nmR; rw [List.length_map]
/-- A place, or -1. -/
def plO (o : Option Nat) : Int := match o with
  | some i => ((i : Nat) : Int)
  | none => -1
def NumAns (z : Int) (w : World) (e : Ending) (w' : World) : Prop := e = .returned (.int .i64 z) ∧ Below w.heap.size w w'
theorem rl_cell {w : World} {b o n : Nat} {RL : List Rw} (h : SlX rlR w (some ⟨b, o, none⟩) n RL) {i : Nat} (hi : i < n) {x : Rw} (hx : RL[i]? = some x) : w.cell? ⟨b, o + i * 3, none⟩ = some (.string ⟨x.1.toArray⟩) ∧ w.cell? ⟨b, o + i * 3 + 1, none⟩ = some (.string ⟨x.2.1.toArray⟩) ∧ w.cell? ⟨b, o + i * 3 + 2, none⟩ = some (.int .i64 x.2.2) := by
  obtain ⟨b', o', e, hc⟩ := h.at hi
  cases e
  obtain ⟨hl, rfl⟩ := List.getElem?_eq_some_iff.1 hx
  exact ⟨hc i hl 0 _ rfl, hc i hl 1 _ rfl, hc i hl 2 _ rfl⟩
theorem dup_old {names : List (List UInt8)} {i k : Nat} {s : List UInt8} (hs : names[i]? = some s) (hk : k < i) (h : names[k]? = some s) : POrd.dup names i = true := by
  unfold POrd.dup
  rw [List.contains_eq_mem, decide_eq_true_eq, List.mem_append, show names.getD i [] = s by rw [List.getD, hs]; rfl]
  refine .inr (List.mem_of_getElem? (i := k) ?_)
  rw [List.getElem?_take, if_pos hk]; exact h
theorem ins_name {j : Nat} (h : j < 5) : ∃ b, POrd.inB[j]? = some b ∧ POrd.inN[j]? = some b.name := by
  rcases (by omega : j = 0 ∨ j = 1 ∨ j = 2 ∨ j = 3 ∨ j = 4) with rfl | rfl | rfl | rfl | rfl <;> exact ⟨_, rfl, rfl⟩
theorem bd_cell {w : World} {b o n : Nat} {L : List Bd} (h : SlX bdR w (some ⟨b, o, none⟩) n L) {i : Nat} (hi : i < n) {x : Bd} (hx : L[i]? = some x) : w.cell? ⟨b, o + i * 2, none⟩ = some (.string ⟨x.name.toArray⟩) ∧ w.cell? ⟨b, o + i * 2 + 1, none⟩ = some (.int .i64 x.kind) := by
  obtain ⟨b', o', e, hc⟩ := h.at hi
  cases e
  obtain ⟨hl, rfl⟩ := List.getElem?_eq_some_iff.1 hx
  exact ⟨hc i hl 0 _ rfl, hc i hl 1 _ rfl⟩
end Go.Proofs.YtfihdbnecepmfaaGreatDoor

set_option linter.unusedVariables false
namespace POrd
/-- The first one from place i on. -/
def from' (i n : Nat) (P : Nat → Bool) : Option Nat := least n (fun j => decide (i ≤ j) && P j)
/-- What is told of an order, or of a place. -/
def sortR : Option (List Nat) × Nat → List Nat × Nat × Nat
  | (some l, _) => (l, 0, 0)
  | (none, i) => ([], i, 8)
theorem ans_none {names : List (List UInt8)} {H : Nat → Nat → Bool} (h : twice names = none) : ans names H = sortR (sort names.length H) := by
  unfold ans
  rw [h]
  cases sort names.length H with
  | mk a b => cases a <;> rfl
theorem ans_some {names : List (List UInt8)} {H : Nat → Nat → Bool} {i : Nat} (h : twice names = some i) : ans names H = ([], i, 6) := by
  unfold ans
  rw [h]
end POrd
namespace Go.Proofs.YtfihdbnecepmfaaGreatDoor
open Go.RowKit
open PCheck (Xp Bd made)
open PTree (Tr Rl Ex Wf X0)

/-- An order, a place and an error's number are answered. -/
def OrdAns (F : List Nat × Nat × Nat) (w : World) (e : Ending) (w' : World) : Prop := ∃ A c, e = .returned (.tuple #[.slice A F.1.length c, .int .i64 (F.2.1 : Nat), .int .i64 (F.2.2 : Nat)]) ∧ SlX intR w' A F.1.length (plI F.1) ∧ ((A = none → c = 0) ∧ F.1.length ≤ c) ∧ Below w.heap.size w w'
def lenOf (v : Value) : Nat := match v with
  | .slice _ n _ => n
  | _ => 0
theorem plI_snoc (l : List Nat) (i : Nat) : plI (l ++ [i]) = plI l ++ [((i : Nat) : Int)] := by unfold plI; rw [List.map_append]; rfl
end Go.Proofs.YtfihdbnecepmfaaGreatDoor
