/-
  What the walks of stage 22's statements share: the document's answers, asked for a file of the project's own.
-/
import Derived.Test.YtbnnmakmgleikaaDoorLaw22Awake
import Derived.Test.YtbnnmakmgleikaaDoorRef22Right
import Derived.Test.YtbnnmakmgleikaaDoorRef22Text
import Derived.Test.YtbnnmakmgleikaaDoorRef22Same
set_option linter.unusedVariables false
namespace Go.Proofs.YtbnnmakmgleikaaDoor
open Go.RowKit
open PBank (Pay)

/-- What the walks read of the library's variables. -/
def TabE (w : World) : Prop := Tab w ∧ ErrV w
theorem TabE.on {w w' : World} (h : TabE w) (hb : Below w.heap.size w w') : TabE w' := ⟨h.1.on hb, h.2.on hb⟩
/-- The document's file. -/
def RfN (per : Int) (l : List Pay) (n : Nat) (w : World) (e : Ending) (w' : World) : Prop := ∃ A c, e = .returned (.agg #[.int .i64 per, .slice A n c]) ∧ SlX payR w' A n l ∧ Below w.heap.size w w'
theorem bref_n {w : World} {per : Int} {A : Option Addr} {n c : Nat} {l : List Pay} (hS : SlX payR w A n l) (hn : n ≤ 90000) :
    Calls Tryd.prog 12 #[.agg #[.int .i64 per, .slice A n c]] w (RfN per l n w) := by
  have hl := hS.1
  refine (bref_any hS hn).mono ?_
  rintro e w' ⟨A', c', rfl, h1, -, -, h4⟩
  rw [hl] at h1
  exact ⟨A', c', by rw [hl], h1, h4⟩
theorem right_n {w : World} {per : Int} {A : Option Addr} {n c : Nat} {l : List Pay} (hS : SlX payR w A n l) (hn : n ≤ 90000) (hR : PBank.Rt per l) :
    Calls Tryd.prog 11 #[.agg #[.int .i64 per, .slice A n c]] w (FlagB true w) := by
  have h := r22right_any (per := per) (c := c) hS (by omega)
  rw [decide_eq_true hR] at h; exact h
theorem right_no {w : World} {per : Int} {A : Option Addr} {n c : Nat} {l : List Pay} (hS : SlX payR w A n l) (hn : n ≤ 90000) (hR : ¬ PBank.Rt per l) :
    Calls Tryd.prog 11 #[.agg #[.int .i64 per, .slice A n c]] w (FlagB false w) := by
  have h := r22right_any (per := per) (c := c) hS (by omega)
  rw [decide_eq_false hR] at h; exact h
theorem text_n {w : World} {per : Int} {A : Option Addr} {n c : Nat} {l : List Pay} (hS : SlX payR w A n l) (hn : n ≤ 90000) (hR : PBank.Rt per l) {s : ByteArray} (hs : s.data.toList = PBank.txt per l) :
    Calls Tryd.prog 15 #[.agg #[.int .i64 per, .slice A n c]] w (fun e w' => e = .returned (.string s) ∧ Below w.heap.size w w') := by
  refine (r22text_any hS (by omega) hR).mono ?_
  rintro e w' ⟨rfl, h⟩
  refine ⟨?_, h⟩
  rw [← hs]
theorem bytes_of {s : ByteArray} {l : List UInt8} (h : s.data.toList = l) : s = ⟨l.toArray⟩ := by subst h; rfl
theorem same_y {w : World} {per per' : Int} {A A' : Option Addr} {n n' c c' : Nat} {l l' : List Pay} (hS : SlX payR w A n l) (hS' : SlX payR w A' n' l') (hn : n ≤ 90000) (e : per = per' ∧ l = l') :
    Calls Tryd.prog 16 #[.agg #[.int .i64 per, .slice A n c], .agg #[.int .i64 per', .slice A' n' c']] w (FlagB true w) := by
  have h := r22same_any (per := per) (per' := per') (c := c) (c' := c') hS hS' (by omega)
  rw [decide_eq_true e] at h; exact h
theorem same_n {w : World} {per per' : Int} {A A' : Option Addr} {n n' c c' : Nat} {l l' : List Pay} (hS : SlX payR w A n l) (hS' : SlX payR w A' n' l') (hn : n ≤ 90000) (e : ¬ (per = per' ∧ l = l')) :
    Calls Tryd.prog 16 #[.agg #[.int .i64 per, .slice A n c], .agg #[.int .i64 per', .slice A' n' c']] w (FlagB false w) := by
  have h := r22same_any (per := per) (per' := per') (c := c) (c' := c') hS hS' (by omega)
  rw [decide_eq_false e] at h; exact h
end Go.Proofs.YtbnnmakmgleikaaDoor
