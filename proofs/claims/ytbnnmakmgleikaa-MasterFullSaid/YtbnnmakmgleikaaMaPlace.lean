/-
  Where a person stands, or would stand: what the landed master answers.
-/
import Derived.Test.YtbnnmakmgleikaaMaSmall
set_option linter.unusedVariables false
namespace Go.Proofs.Ytbnnmakmgleikaa
open Go.RowKit

def cmpM (a b : Int) : Int := if a < b then -1 else if b < a then 1 else 0
theorem cmpM_is (a b : Int) : Lib.compareInt a b = cmpM a b := by
  unfold Lib.compareInt cmpM
  (repeat' split) <;> omega
theorem lead_congr {α β : Type} {f : α → Bool} {g : β → Bool} : ∀ {l : List α} {m : List β}, l.length = m.length → (∀ (i : Nat) (x : α) (y : β), l[i]? = some x → m[i]? = some y → f x = g y) → PMa.lead f l = PMa.lead g m
  | [], [], _, _ => rfl
  | [], _ :: _, h, _ => by simp at h
  | _ :: _, [], h, _ => by simp at h
  | x :: l, y :: m, h, hf => by
    unfold PMa.lead
    rw [hf 0 x y rfl rfl, lead_congr (l := l) (m := m) (by simpa using h) (fun i a b h1 h2 => hf (i + 1) a b (by simpa using h1) (by simpa using h2))]
theorem box5 {w : World} {H : Nat} {a b c d e : Value} (h : Box w H [a, b, c, d, e]) : w.cell? ⟨H, 0, none⟩ = some a ∧ w.cell? ⟨H, 1, none⟩ = some b ∧ w.cell? ⟨H, 2, none⟩ = some c ∧ w.cell? ⟨H, 3, none⟩ = some d ∧ w.cell? ⟨H, 4, none⟩ = some e := ⟨h.c 0 rfl, h.c 1 rfl, h.c 2 rfl, h.c 3 rfl, h.c 4 rfl⟩
set_option maxHeartbeats 1600000 in
theorem pcmp_any (r : Raw) (id : Int) (w : World) : Calls Try.prog 39 #[.agg #[.int .i64 r.id, .int .i64 r.hired, .int .i64 r.gone, .slice r.A r.n r.c, .slice r.B r.m r.d], .int .i64 id] w (IntM (cmpM r.id id) w) := by
  obtain ⟨Q, hQ⟩ : ∃ Q, IntM (cmpM r.id id) w = Q := ⟨_, rfl⟩
  rw [hQ]
  obtain ⟨w1, hw1, XB, b1⟩ : ∃ w1, w.alloc (.cells #[.int .i64 r.id, .int .i64 r.hired, .int .i64 r.gone, .slice r.A r.n r.c, .slice r.B r.m r.d] 53) = w1 ∧ Box w1 w.heap.size [.int .i64 r.id, .int .i64 r.hired, .int .i64 r.gone, .slice r.A r.n r.c, .slice r.B r.m r.d] ∧ Below w.heap.size w w1 := ⟨_, rfl, Box.new _ _ [.int .i64 r.id, .int .i64 r.hired, .int .i64 r.gone, .slice r.A r.n r.c, .slice r.B r.m r.d], (Below.refl _ _).alloc (Nat.le_refl _) _⟩
  have F : Hid (Q (.returned (.int .i64 (cmpM r.id id))) w1) := Lib.hid (by rw [← hQ]; exact ⟨rfl, b1⟩)
  obtain ⟨y0, y1, y2, y3, y4⟩ := box5 XB
  have hs := XB.1
  have C := Lib.hid (show Calls Try.prog 40 #[.int .i64 r.id, .int .i64 id] w1 (SameM (.int .i64 (cmpM r.id id)) w1) by rw [← cmpM_is]; exact Try.cmp_Compare_int r.id id w1)
  have HW1 := Lib.hid hw1
  obtain ⟨z, hz⟩ : ∃ z, cmpM r.id id = z := ⟨_, rfl⟩
  rw [hz] at F C
  clear hQ hw1 XB b1 hz
  go_enter Try.func39, Try.ntmps39
  go_upto_region 1 with fail
  rw [HW1.out]
  clear HW1
  go_wp2_with (go_at_call 40; refine C.out.mono ?_)
  rintro e w2 ⟨rfl, rfl⟩
  go_wp2_with fail
  exact F.out
/-- Where it is, and whether it is there. -/
def PlB (n : Nat) (b : Bool) (w : World) (e : Ending) (w' : World) : Prop := e = .returned (.tuple #[.int .i64 (n : Int), .bool b]) ∧ Below w.heap.size w w'
def rplace (rs : List Raw) (id : Int) : Nat := PMa.lead (fun r : Raw => decide (r.id < id)) rs
def rthere (rs : List Raw) (id : Int) : Bool := match rs[rplace rs id]? with
  | some r => decide (r.id = id)
  | none => false
set_option maxRecDepth 100000 in
set_option maxHeartbeats 6400000 in
theorem bsearch_any {w : World} {A : Option Addr} {n c : Nat} {rs : List Raw} (hS : SlX rawR w A n rs) (hn : n ≤ 1000000) (hF : ∀ id, PMa.Falls (fun r : Raw => decide (r.id < id)) rs) (id : Int) :
    Calls Try.prog 38 #[.slice A n c, .int .i64 id, .func (.func 39) #[] #[]] w (PlB (rplace rs id) (rthere rs id) w) := by
  obtain ⟨Q, hQ⟩ : ∃ Q, PlB (rplace rs id) (rthere rs id) w = Q := ⟨_, rfl⟩
  rw [hQ]
  have hl : rs.length = n := hS.1
  have F : Hid (∀ (b : Bool) w', rthere rs id = b → Below w.heap.size w w' → Q (.returned (.tuple #[.int .i64 (rplace rs id : Nat), .bool b])) w') := Lib.hid (fun b w' h hb => by rw [← hQ, ← h]; exact ⟨rfl, hb⟩)
  have HS := Lib.hid hS; have HL := Lib.hid hl; have HF := Lib.hid hF
  have gn : (n : Int) ≤ 1000000 := by omega
  clear hQ hS hl hF
  go_enter Try.func38, Try.ntmps38
  go_wp2_with fail
  go_loopw [9, 10] (fun i j wr => ∃ a b : Nat, i = .int .i64 a ∧ j = .int .i64 b ∧ a ≤ b ∧ b ≤ n ∧ Hid (∀ (t : Nat) (r : Raw), t < a → rs[t]? = some r → r.id < id) ∧ Hid (∀ (t : Nat) (r : Raw), b ≤ t → rs[t]? = some r → id ≤ r.id) ∧ Hid (Below w.heap.size w wr)) (fun i j _ => (intOf j).toNat - (intOf i).toNat)
  case atStart => exact ⟨0, n, rfl, rfl, Nat.zero_le _, Nat.le_refl _, Lib.hid (fun t r h => absurd h (Nat.not_lt_zero _)), Lib.hid (fun t r h h2 => by
    have := (List.getElem?_eq_some_iff.1 h2).1
    have := HL.out
    omega), Lib.hid (Below.refl _ _)⟩
  case round =>
    obtain ⟨a, b, rfl, rfl, hab, hbn, J1, J2, J3⟩ := hrel
    by_cases hlt : a < b
    · have g1 : (a : Int) < (b : Int) := by omega
      have gw1 : IntKind.i64.wrap ((a : Int) + (b : Int)) = (a : Int) + (b : Int) := by rw [IntKind.wrap_i64]; omega
      obtain ⟨h, hh⟩ : ∃ h : Nat, ((a : Int) + (b : Int)) / 2 = (h : Int) := ⟨(a + b) / 2, by omega⟩
      have hah : a ≤ h := by omega
      have hhb : h < b := by omega
      have hhn : h < n := by omega
      have gh0 : (0 : Int) ≤ (h : Int) := by omega
      have ghn : (h : Int) < (n : Int) := by omega
      obtain ⟨bA, oA, rfl, -⟩ := (HS.out.on J3.out).at hhn
      obtain ⟨r, hr⟩ : ∃ r, rs[h]? = some r := ⟨_, List.getElem?_eq_getElem (by rw [HL.out]; exact hhn)⟩
      obtain ⟨l0, l1, l2, l3, l4⟩ := raw_cell (HS.out.on J3.out) hhn hr
      have hsl := World.block_lt_of_cell? wr _ l0
      have CP := Lib.hid (pcmp_any r id wr)
      obtain ⟨z, hz⟩ : ∃ z, cmpM r.id id = z := ⟨_, rfl⟩
      have HZ : Hid (z < 0 ↔ r.id < id) := Lib.hid (by rw [← hz]; unfold cmpM; (repeat' split) <;> omega)
      rw [hz] at CP
      have HR := Lib.hid hr
      clear hz hr
      go_wp2_with (go_at_call 39; refine CP.out.mono ?_)
      intro e2 w2 h2
      obtain ⟨rfl, b2⟩ := h2
      have B2 := Lib.hid (below_step J3.out b2)
      clear b2 CP l0 l1 l2 l3 l4 hsl
      by_cases hzz : z < 0
      · have K1 : Hid (∀ (t : Nat) (r : Raw), t < h + 1 → rs[t]? = some r → r.id < id) := Lib.hid (fun t r' ht hr' => by
          have h1 := HZ.out.1 hzz
          by_cases e : t = h
          · subst e; rw [HR.out] at hr'; cases hr'; exact h1
          · have := HF.out id t h r' r (by omega) hr' HR.out (by simpa using h1)
            simpa using this)
        go_wp2_with fail
        exact ⟨⟨h + 1, b, by congr 1, rfl, by omega, hbn, K1, J2, B2⟩, by simp [intOf]; omega⟩
      · have K2 : Hid (∀ (t : Nat) (r : Raw), h ≤ t → rs[t]? = some r → id ≤ r.id) := Lib.hid (fun t r' ht hr' => by
          have h1 : ¬ r.id < id := fun h1 => hzz (HZ.out.2 h1)
          by_cases e : t = h
          · subst e; rw [HR.out] at hr'; cases hr'; omega
          · rcases Int.lt_or_le r'.id id with h2 | h2
            · have := HF.out id h t r r' (by omega) HR.out hr' (by simpa using h2)
              exact absurd (by simpa using this) h1
            · exact h2)
        go_wp2_with fail
        exact ⟨⟨a, h, rfl, rfl, hah, by omega, J1, K2, B2⟩, by simp [intOf]; omega⟩
    · obtain rfl : a = b := by omega
      have g1 : ¬ (a : Int) < (a : Int) := by omega
      have HP : Hid (rplace rs id = a) := Lib.hid (PMa.lead_eq (by rw [HL.out]; exact hbn) (fun i x hi hx => by simpa using J1.out i x hi hx) (fun x hx => by simpa using J2.out a x (Nat.le_refl _) hx))
      rw [HP.out] at F
      by_cases han : a < n
      · have ga : (a : Int) < (n : Int) := by omega
        have gh0 : (0 : Int) ≤ (a : Int) := by omega
        obtain ⟨bA, oA, rfl, -⟩ := (HS.out.on J3.out).at han
        obtain ⟨r, hr⟩ : ∃ r, rs[a]? = some r := ⟨_, List.getElem?_eq_getElem (by rw [HL.out]; exact han)⟩
        obtain ⟨l0, l1, l2, l3, l4⟩ := raw_cell (HS.out.on J3.out) han hr
        have hsl := World.block_lt_of_cell? wr _ l0
        have CP := Lib.hid (pcmp_any r id wr)
        obtain ⟨z, hz⟩ : ∃ z, cmpM r.id id = z := ⟨_, rfl⟩
        have HZ : Hid (rthere rs id = (z == 0)) := Lib.hid (by
          unfold rthere
          rw [HP.out, hr, ← hz]
          show decide (r.id = id) = (cmpM r.id id == 0)
          unfold cmpM
          rw [Bool.eq_iff_iff, decide_eq_true_eq, beq_iff_eq]
          (repeat' split) <;> omega)
        rw [hz] at CP
        clear hz hr
        go_wp2_with (go_at_call 39; refine CP.out.mono ?_)
        intro e2 w2 h2
        obtain ⟨rfl, b2⟩ := h2
        have B2 := Lib.hid (below_step J3.out b2)
        clear b2 CP l0 l1 l2 l3 l4 hsl
        go_wp2_with fail
        exact F.out _ _ HZ.out B2.out
      · have ga : ¬ (a : Int) < (n : Int) := by omega
        have HZ : Hid (rthere rs id = false) := Lib.hid (by
          unfold rthere
          rw [HP.out, List.getElem?_eq_none (by rw [HL.out]; omega)])
        go_wp2_with fail
        exact F.out _ _ HZ.out J3.out
theorem rplace_eq {w : World} {rs : List Raw} {M : List PMa.Per} (h : RawsOk w rs M) (id : Int) : rplace rs id = PMa.place M id :=
  lead_congr h.len (fun i r p h1 h2 => by rw [(h.at_ i r p h1 h2).id])
theorem rthere_eq {w : World} {rs : List Raw} {M : List PMa.Per} (h : RawsOk w rs M) (id : Int) : rthere rs id = PMa.there M id := by
  unfold rthere PMa.there
  rw [rplace_eq h]
  have hl := h.len
  by_cases hi : PMa.place M id < M.length
  · have e1 : rs[PMa.place M id]? = some (rs[PMa.place M id]'(by omega)) := List.getElem?_eq_getElem (by omega)
    have e2 : M[PMa.place M id]? = some (M[PMa.place M id]'hi) := List.getElem?_eq_getElem hi
    rw [e1, e2]
    show decide (_ = id) = decide (_ = id)
    rw [(h.at_ _ _ _ e1 e2).id]
  · rw [List.getElem?_eq_none (by omega), List.getElem?_eq_none (by omega)]
theorem rfalls {w : World} {rs : List Raw} {M : List PMa.Per} (h : RawsOk w rs M) (hF : PMa.Fine M) (id : Int) : PMa.Falls (fun r : Raw => decide (r.id < id)) rs := fun i j x y hij hx hy hf => by
  have hl := h.len
  have hi : i < rs.length := (List.getElem?_eq_some_iff.1 hx).1
  have hj : j < rs.length := (List.getElem?_eq_some_iff.1 hy).1
  have e1 : M[i]? = some (M[i]'(by omega)) := List.getElem?_eq_getElem (by omega)
  have e2 : M[j]? = some (M[j]'(by omega)) := List.getElem?_eq_getElem (by omega)
  have a := (h.at_ i x _ hx e1).id
  have b := (h.at_ j y _ hy e2).id
  have := hF.ids i j _ _ hij e1 e2
  simp only [decide_eq_true_eq] at *
  omega
set_option maxHeartbeats 3200000 in
theorem kplace_any {w : World} {A : Option Addr} {n c : Nat} {M : List PMa.Per} (hS : MaS w A n M) (hF : PMa.Fine M) (hn : n ≤ 1000000) (id : Int) :
    Calls Try.prog 24 #[.agg #[.slice A n c], .int .i64 id] w (PlB (PMa.place M id) (PMa.there M id) w) := by
  obtain ⟨Q, hQ⟩ : ∃ Q, PlB (PMa.place M id) (PMa.there M id) w = Q := ⟨_, rfl⟩
  rw [hQ]
  have F : Hid (∀ w', Below w.heap.size w w' → Q (.returned (.tuple #[.int .i64 (PMa.place M id : Nat), .bool (PMa.there M id)])) w') := Lib.hid (fun w' hb => by rw [← hQ]; exact ⟨rfl, hb⟩)
  obtain ⟨w1, hw1, XB, b1⟩ : ∃ w1, w.alloc (.cells #[.slice A n c] 26) = w1 ∧ Box w1 w.heap.size [.slice A n c] ∧ Below w.heap.size w w1 := ⟨_, rfl, Box.new _ _ [.slice A n c], (Below.refl _ _).alloc (Nat.le_refl _) _⟩
  obtain ⟨rs, h1, h2⟩ := hS.on b1
  have C := Lib.hid (by have h := bsearch_any (c := c) h1 hn (fun id => rfalls h2 hF id) id; rw [rplace_eq h2, rthere_eq h2] at h; exact h)
  have y0 : w1.cell? ⟨w.heap.size, 0, none⟩ = some (.slice A n c) := XB.c 0 rfl
  have hs := XB.1
  have HW1 := Lib.hid hw1; have B1 := Lib.hid b1
  obtain ⟨p, hp⟩ : ∃ p, PMa.place M id = p := ⟨_, rfl⟩
  obtain ⟨t, ht⟩ : ∃ t, PMa.there M id = t := ⟨_, rfl⟩
  rw [hp, ht] at F C
  clear hQ hw1 XB b1 h1 h2 hS hF hp ht
  go_enter Try.func24, Try.ntmps24
  go_upto_region 1 with fail
  rw [HW1.out]
  clear HW1
  go_wp2_with (go_at_call 38; refine C.out.mono ?_)
  intro e2 w2 h2
  obtain ⟨rfl, b2⟩ := h2
  have B2 := Lib.hid (below_step B1.out b2)
  clear b2 C
  go_wp2_with fail
  exact F.out _ B2.out
end Go.Proofs.Ytbnnmakmgleikaa
