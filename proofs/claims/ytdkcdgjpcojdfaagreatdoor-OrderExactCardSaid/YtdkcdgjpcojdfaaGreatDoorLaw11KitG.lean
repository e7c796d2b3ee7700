/-
  What stage 11's walks over a text that was read have in common: what both parsers answer of it, and that the library is awake.
-/
import Derived.Test.YtdkcdgjpcojdfaaGreatDoorLaw11AwakeG
import Derived.Test.YtdkcdgjpcojdfaaGreatDoorRef08ParseG

set_option linter.unusedVariables false
namespace Go.Proofs.YtdkcdgjpcojdfaaGreatDoor
open Go.RowKit
open PTree (R Ex Tr Rl Row)
open PCheck (Xp Bd)

def Bad11 (k q : Nat) (w : World) (e : Ending) (w' : World) : Prop := e = .returned (.tuple #[.agg #[.slice none 0 0, .slice none 0 0], .int .i64 (q : Nat), .int .i64 (k : Nat)]) ∧ Below w.heap.size w w' ∧ k ≠ 0
theorem bad11_any {s : ByteArray} {k q : Nat} (h : PTree.parse s.data.toList = some (.bad k q)) (hs : s.size ≤ 600) : (∀ w, Calls Tryz.prog 10 #[.string s] w (Bad11 k q w)) ∧ (∀ w, Calls Tryz.prog 9 #[.string s] w (Bad11 k q w)) := by
  have P := fun w => tparse_any s w (by omega)
  have Q := fun w => r8parse_any s w hs
  rw [h] at P Q
  exact ⟨fun w => (P w).mono fun e w' k => ⟨k.2.1, k.1, k.2.2⟩, fun w => (Q w).mono fun e w' k => ⟨k.2.1, k.1, k.2.2⟩⟩
def RowsAns11 (rs : List Rl) (rl sz : Nat) (w : World) (e : Ending) (w' : World) : Prop := ∃ A ca B cb, e = .returned (.tuple #[.agg #[.slice A rl ca, .slice B sz cb], .int .i64 0, .int .i64 0]) ∧ SlX rlR w' A rl (rwX rs) ∧ SlX xpR w' B sz (xpX rs) ∧ Below w.heap.size w w'
theorem rparse11 {s : ByteArray} {rs : List Rl} {t : List PLex.Tok} (h : PTree.parse s.data.toList = some (.ok t rs)) (hs : s.size ≤ 600) (w : World) {rl sz : Nat} (hl : rs.length = rl) (hz : PTree.sizeOf rs = sz) :
    Calls Tryz.prog 9 #[.string s] w (RowsAns11 rs rl sz w) := by
  subst hl; subst hz
  refine (r8parse_any s w hs).mono fun e w' k => ?_
  rw [h] at k
  obtain ⟨hb, A, ca, B, cb, he, _, _, h1, h2⟩ := k
  exact ⟨A, ca, B, cb, he, slx_rw h1, slx_xpX h2, hb⟩
def Yes11 (w : World) (e : Ending) (w' : World) : Prop := e = .returned (.bool true) ∧ Below w.heap.size w w'
theorem aw11_yes (w : World) (ht : Tab2 w) : Calls Tryz.prog 8 #[] w (Yes11 w) := aw11_any w ht
theorem same_yes {w : World} {a b : Option Addr} {n ca cb : Nat} {l : List Int} (ha : SlX intR w a n l) (hb : SlX intR w b n l) (hn : n ≤ 100000) :
    Calls Tryz.prog 15 #[.slice a n ca, .slice b n cb] w (Yes11 w) := same_eq ha hb hn
end Go.Proofs.YtdkcdgjpcojdfaaGreatDoor
