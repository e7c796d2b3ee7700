/-
  The kind of an expression: which ones it is made of, and their kinds, from the first one on. Plain facts; no program is named here.
-/
import Derived.Test.YtbnnmakmgleikaaDoorBase
namespace PCheck

/-- A row of any program. -/
structure Xp where
  op : List UInt8
  name : List UInt8
  value : Int
  a : Int
  b : Int
  c : Int
deriving DecidableEq
/-- A binding. -/
structure Bd where
  name : List UInt8
  kind : Int
deriving DecidableEq
def wholeS : List UInt8 := [119, 104, 111, 108, 101]
def amountS : List UInt8 := [97, 109, 111, 117, 110, 116]
def rateS : List UInt8 := [114, 97, 116, 101]
def nameS : List UInt8 := [110, 97, 109, 101]
def negS : List UInt8 := [110, 101, 103]
def ifS : List UInt8 := [105, 102]
/-- The places of the parts. -/
def parts (x : Xp) : List Int :=
  if x.op = wholeS ∨ x.op = amountS ∨ x.op = rateS ∨ x.op = nameS then []
  else if x.op = negS then [x.a]
  else if x.op = ifS then [x.a, x.b, x.c]
  else [x.a, x.b]
/-- Marks, with some places more; none: one of these is not ahead of i. -/
def mark (i : Nat) : List Int → List Bool → Option (List Bool)
  | [], m => some m
  | p :: l, m => if p < 0 ∨ (i : Int) ≤ p then none else mark i l (m.set p.toNat true)
/-- From place i - 1 down. -/
def madeF (E : List Xp) : Nat → List Bool → Option (List Bool)
  | 0, m => some m
  | i + 1, m => match E[i]? with
    | none => none
    | some x => if m[i]? = some true then match mark i (parts x) m with
        | none => none
        | some m' => madeF E i m'
      else madeF E i m
/-- Which ones the root is made of. -/
def made (E : List Xp) (r : Nat) : Option (List Bool) := madeF E (r + 1) ((List.replicate (r + 1) false).set r true)
def oneOf (k : Int) (l : List Int) : Int := if k ∈ l then k else 0
def common (a b : Int) : Int := if a = b then a else 0
def product (a b : Int) : Int := if a = 3 ∧ b = 3 then 3 else if a = 1 ∧ (b = 3 ∨ b = 2) then 1 else if b = 1 ∧ (a = 3 ∨ a = 2) then 1 else 0
def flag (k : Int) : Int := if k = 0 then 0 else 4
/-- The kind of an operation but a name, whose parts are of these. -/
def kindBy (op : List UInt8) (a b c : Int) : Int :=
  if op = wholeS then 3 else if op = amountS then 1 else if op = rateS then 2
  else if op = negS then oneOf a [1, 3]
  else if op = [43] ∨ op = [45] then oneOf (common a b) [1, 3]
  else if op = [42] then product a b
  else if op = [60] ∨ op = [60, 61] ∨ op = [62] ∨ op = [62, 61] then flag (oneOf (common a b) [1, 2, 3])
  else if op = [61] ∨ op = [60, 62] then flag (common a b)
  else if op = [109, 105, 110] ∨ op = [109, 97, 120] then oneOf (common a b) [1, 2, 3]
  else if op = ifS then (if a = 4 then common b c else 0)
  else 0
/-- The kind that a name is bound to first; none: it is nowhere. -/
def bound (l : List Bd) (n : List UInt8) : Option Int := match l with
  | [] => none
  | b :: l => if b.name = n then some (oneOf b.kind [1, 2, 3, 4]) else bound l n
def at0 (ks : List Int) (p : List Int) (n : Nat) : Int := match p[n]? with
  | none => 0
  | some q => ks.getD q.toNat 0
/-- The kind, or the error: 5, 7. -/
def kindOf (l : List Bd) (x : Xp) (ks : List Int) : Int × Nat :=
  if x.op = nameS then match bound l x.name with
    | none => (0, 5)
    | some k => if k = 0 then (0, 7) else (k, 0)
  else
    let k := kindBy x.op (at0 ks (parts x) 0) (at0 ks (parts x) 1) (at0 ks (parts x) 2)
    if k = 0 then (0, 7) else (k, 0)
/-- Kinds from place i on: the error and its place, or all of them. -/
def kindsF (l : List Bd) (E : List Xp) (m : List Bool) : Nat → Nat → List Int → Nat × Nat × List Int
  | 0, _, ks => (0, 0, ks)
  | f + 1, i, ks => match E[i]? with
    | none => (0, 0, ks)
    | some x => if m[i]? = some true then
        (if (kindOf l x ks).2 = 0 then kindsF l E m f (i + 1) (ks.set i (kindOf l x ks).1) else ((kindOf l x ks).2, i, ks))
      else kindsF l E m f (i + 1) ks
/-- What is told of kinds, or of an error. -/
def told (r : Nat) : Nat × Nat × List Int → Int × Nat × Nat
  | (0, _, ks) => (ks.getD r 0, 0, 0)
  | (e + 1, i, _) => (0, i, e + 1)
/-- Kind: the kind, the place, the error. -/
def kind (E : List Xp) (r : Int) (l : List Bd) : Int × Nat × Nat :=
  if r < 0 ∨ (E.length : Int) ≤ r then (0, 0, 1)
  else match made E r.toNat with
    | none => (0, 0, 1)
    | some m => told r.toNat (kindsF l E m (r.toNat + 1) 0 (List.replicate (r.toNat + 1) 0))
end PCheck
