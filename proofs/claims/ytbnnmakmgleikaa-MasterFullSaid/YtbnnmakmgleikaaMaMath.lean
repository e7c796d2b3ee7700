/-
  People who work, and for what: what is done to them, one call at a time. Plain facts; no program is named here.
-/
import Derived.Test.YtbnnmakmgleikaaBase
namespace PMa
open Go

/-- A record, an order, a person. -/
structure Rcd where
  frm : Int
  ctr : Int
  base : Int
  bonus : Int
  hours : Int
  days : Int
  lead : Bool
deriving DecidableEq
instance : Inhabited Rcd := ⟨⟨0, 0, 0, 0, 0, 0, false⟩⟩
structure Ord where
  cred : Int
  prio : Int
  claim : Int
  bal : Int
deriving DecidableEq
instance : Inhabited Ord := ⟨⟨0, 0, 0, 0⟩⟩
structure Per where
  id : Int
  hired : Int
  gone : Int
  recs : List Rcd
  ords : List Ord
deriving DecidableEq
instance : Inhabited Per := ⟨⟨0, 0, 0, [], []⟩⟩

def isId (n : Int) : Bool := decide (1 ≤ n ∧ n ≤ 2147483647)
def isPer (n : Int) : Bool := decide (22800 ≤ n ∧ n ≤ 35999)
def isIn (n : Int) : Bool := decide (0 ≤ n ∧ n ≤ 1099511627776)
def isRcd (r : Rcd) : Bool := isPer r.frm && decide (0 ≤ r.ctr ∧ r.ctr ≤ 999) && isIn r.base && isIn r.bonus && isIn r.hours && isIn r.days
def isOrd (o : Ord) : Bool := decide (1 ≤ o.cred ∧ o.cred ≤ 999) && decide (1 ≤ o.prio ∧ o.prio ≤ 999) && decide (1 ≤ o.claim ∧ o.claim ≤ 1099511627776) && decide (1 ≤ o.bal ∧ o.bal ≤ 1099511627776)

/-- How many of a row are ahead, as far as it goes without a break. -/
def lead {α : Type} (f : α → Bool) : List α → Nat
  | [] => 0
  | x :: l => if f x then lead f l + 1 else 0
/-- Once something is not ahead, nothing behind it is. -/
def Falls {α : Type} (f : α → Bool) (l : List α) : Prop := ∀ (i j : Nat) (x y : α), i < j → l[i]? = some x → l[j]? = some y → f y = true → f x = true
theorem lead_le {α : Type} (f : α → Bool) : ∀ l : List α, lead f l ≤ l.length
  | [] => Nat.le_refl _
  | x :: l => by unfold lead; split; exact Nat.succ_le_succ (lead_le f l); exact Nat.zero_le _
theorem lead_yes {α : Type} {f : α → Bool} : ∀ {l : List α} {i : Nat} {x : α}, i < lead f l → l[i]? = some x → f x = true
  | [], i, x, h, _ => by simp [lead] at h
  | y :: l, i, x, h, hx => by
    unfold lead at h
    split at h
    · rename_i hy
      cases i with
      | zero => obtain rfl : y = x := by simpa using hx
                exact hy
      | succ i => exact lead_yes (l := l) (i := i) (by omega) (by simpa using hx)
    · omega
theorem lead_no {α : Type} {f : α → Bool} : ∀ {l : List α} {x : α}, l[lead f l]? = some x → f x = false
  | [], x, h => by simp [lead] at h
  | y :: l, x, h => by
    unfold lead at h
    split at h
    · rename_i hy
      exact lead_no (l := l) (by simpa using h)
    · rename_i hy
      obtain rfl : y = x := by simpa using h
      simpa using hy
/-- The place is the only one with all ahead below it and none from it on. -/
theorem lead_eq {α : Type} {f : α → Bool} {l : List α} {n : Nat} (hn : n ≤ l.length) (h1 : ∀ i x, i < n → l[i]? = some x → f x = true) (h2 : ∀ x, l[n]? = some x → f x = false) : lead f l = n := by
  have hl := lead_le f l
  rcases Nat.lt_trichotomy (lead f l) n with h | h | h
  · obtain ⟨x, hx⟩ : ∃ x, l[lead f l]? = some x := ⟨_, List.getElem?_eq_getElem (by omega)⟩
    have a := lead_no hx
    rw [h1 _ _ h hx] at a; cases a
  · exact h
  · obtain ⟨x, hx⟩ : ∃ x, l[n]? = some x := ⟨_, List.getElem?_eq_getElem (by omega)⟩
    have a := lead_yes h hx
    rw [h2 _ hx] at a; cases a
/-- Records by rising periods; people by rising ids. -/
def Up (l : List Rcd) : Prop := ∀ (i j : Nat) (x y : Rcd), i < j → l[i]? = some x → l[j]? = some y → x.frm < y.frm
structure Fine (M : List Per) : Prop where
  ids : ∀ (i j : Nat) (x y : Per), i < j → M[i]? = some x → M[j]? = some y → x.id < y.id
  ups : ∀ p ∈ M, Up p.recs
def upTo (l : List Rcd) (t : Int) : Nat := lead (fun r => decide (r.frm ≤ t)) l
def place (M : List Per) (id : Int) : Nat := lead (fun p => decide (p.id < id)) M
def there (M : List Per) (id : Int) : Bool := match M[place M id]? with
  | some p => decide (p.id = id)
  | none => false
theorem Up.falls {l : List Rcd} (h : Up l) (t : Int) : Falls (fun r : Rcd => decide (r.frm ≤ t)) l := fun i j x y hij hx hy hf => by
  have := h i j x y hij hx hy
  simp only [decide_eq_true_eq] at *
  omega
theorem Fine.falls {M : List Per} (h : Fine M) (id : Int) : Falls (fun p : Per => decide (p.id < id)) M := fun i j x y hij hx hy hf => by
  have := h.ids i j x y hij hx hy
  simp only [decide_eq_true_eq] at *
  omega
/-- A row with something put in place of what is from one place on, ahead of another one. -/
def with_ {α : Type} (l : List α) (i j : Nat) (x : α) : List α := l.take i ++ (x :: l.drop j)
theorem with_len {α : Type} {l : List α} {i j : Nat} (x : α) (hi : i ≤ l.length) : (with_ l i j x).length = i + 1 + (l.length - j) := by
  unfold with_; rw [List.length_append, List.length_take, List.length_cons, List.length_drop]; omega
theorem with_at {α : Type} {l : List α} {i j : Nat} {x : α} (hi : i ≤ l.length) : (with_ l i j x)[i]? = some x := by
  unfold with_
  rw [List.getElem?_append_right (by rw [List.length_take]; omega), List.length_take, show i - min i l.length = 0 by omega]; rfl
theorem with_lo {α : Type} {l : List α} {i j k : Nat} {x : α} (hi : i ≤ l.length) (hk : k < i) : (with_ l i j x)[k]? = l[k]? := by
  unfold with_
  rw [List.getElem?_append_left (by rw [List.length_take]; omega), List.getElem?_take, if_pos hk]
theorem with_hi {α : Type} {l : List α} {i j k : Nat} {x : α} (hi : i ≤ l.length) : (with_ l i j x)[i + 1 + k]? = l[j + k]? := by
  unfold with_
  rw [List.getElem?_append_right (by rw [List.length_take]; omega), List.length_take, show i + 1 + k - min i l.length = k + 1 by omega, List.getElem?_cons_succ, List.getElem?_drop]

/-- What is done. -/
def hire (M : List Per) (id : Int) (r : Rcd) : List Per × Int :=
  if !isId id || !isRcd r then (M, 1) else if there M id then (M, 6) else if 50 ≤ M.length then (M, 9)
  else (with_ M (place M id) (place M id) ⟨id, r.frm, 0, [r], []⟩, 0)
def change (M : List Per) (id : Int) (r : Rcd) : List Per × Int :=
  if !isId id || !isRcd r then (M, 1) else if !there M id then (M, 5) else if r.frm < (M.getD (place M id) default).hired then (M, 1)
  else (with_ M (place M id) (place M id + 1) { M.getD (place M id) default with recs := with_ (M.getD (place M id) default).recs (upTo (M.getD (place M id) default).recs (r.frm - 1)) (upTo (M.getD (place M id) default).recs r.frm) r }, 0)
def leave (M : List Per) (id t : Int) : List Per × Int :=
  if !there M id then (M, 5) else if !isPer t || decide (t ≤ (M.getD (place M id) default).hired) then (M, 1)
  else (with_ M (place M id) (place M id + 1) { M.getD (place M id) default with gone := t }, 0)
def claim (M : List Per) (id : Int) (o : Ord) : List Per × Int :=
  if !there M id then (M, 5) else if !isOrd o then (M, 1)
  else if (M.getD (place M id) default).ords.any (fun x => decide (x.cred = o.cred)) then (M, 6)
  else if 8 ≤ (M.getD (place M id) default).ords.length then (M, 9)
  else (with_ M (place M id) (place M id + 1) { M.getD (place M id) default with ords := (M.getD (place M id) default).ords ++ [o] }, 0)
def find (M : List Per) (id : Int) : Per × Int := if there M id then (M.getD (place M id) default, 0) else (default, 5)
def perAt (p : Per) (t : Int) : Rcd × Int :=
  if upTo p.recs t = 0 ∨ t < p.hired ∨ (p.gone ≠ 0 ∧ p.gone ≤ t) then (default, 5) else (p.recs.getD (upTo p.recs t - 1) default, 0)
def at_ (M : List Per) (id t : Int) : Rcd × Int := if there M id then perAt (M.getD (place M id) default) t else (default, 5)
def staff (M : List Per) (t : Int) : List Int := (M.filter fun p => decide ((perAt p t).2 = 0)).map (·.id)
end PMa
