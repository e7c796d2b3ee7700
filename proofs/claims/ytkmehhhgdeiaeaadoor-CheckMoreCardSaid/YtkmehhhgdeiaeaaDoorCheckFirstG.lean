/-
  What the landed check answers: the kinds of the names, the first of each.
-/
import Derived.Test.YtkmehhhgdeiaeaaDoorCM
import Derived.Test.YtkmehhhgdeiaeaaDoorCheckMadeG
import Derived.Test.YtkmehhhgdeiaeaaDoorMapKitG
import Derived.Deep.RegionHeld3
namespace Go.Proofs.YtkmehhhgdeiaeaaDoor
open Go.RowKit
open PCheck (Bd bound)

theorem bound_snoc (l : List Bd) (b : Bd) (s : List UInt8) : bound (l ++ [b]) s = match bound l s with | some k => some k | none => if b.name = s then some (PCheck.oneOf b.kind [1, 2, 3, 4]) else none := by
  induction l with
  | nil => rfl
  | cons c l ih =>
    have e1 : bound (c :: l ++ [b]) s = if c.name = s then some (PCheck.oneOf c.kind [1, 2, 3, 4]) else bound (l ++ [b]) s := rfl
    have e2 : bound (c :: l) s = if c.name = s then some (PCheck.oneOf c.kind [1, 2, 3, 4]) else bound l s := rfl
    rw [e1, e2]
    by_cases h : c.name = s
    · rw [if_pos h, if_pos h]
    · rw [if_neg h, if_neg h]; exact ih
theorem bound_old {l : List Bd} {b : Bd} {k : Int} (h : bound l b.name = some k) : bound (l ++ [b]) = bound l := by
  funext s
  rw [bound_snoc]
  cases hs : bound l s with
  | some k => rfl
  | none =>
    by_cases e : b.name = s
    · rw [← e, h] at hs; cases hs
    · simp [e]
theorem bound_fresh {l : List Bd} {b : Bd} (h : bound l b.name = none) : bound (l ++ [b]) = putF (bound l) b.name (PCheck.oneOf b.kind [1, 2, 3, 4]) := by
  funext s
  rw [bound_snoc]
  unfold putF
  by_cases e : s = b.name
  · subst e; rw [h]
  · rw [if_neg e]
    cases hs : bound l s with
    | some k => rfl
    | none => simp [Ne.symm e]
theorem oneOf_wf (k : Int) : (Lit.int .i64 (PCheck.oneOf k [1, 2, 3, 4])).wf = true := by
  unfold PCheck.oneOf
  by_cases h : k ∈ [1, 2, 3, 4]
  · rw [if_pos h]
    simp only [List.mem_cons, List.not_mem_nil, or_false] at h
    rcases h with rfl | rfl | rfl | rfl <;> decide
  · rw [if_neg h]; decide
theorem four_cells (w : World) : ∀ j, j < 4 → (w.alloc (.cells #[.int .i64 1, .int .i64 2, .int .i64 3, .int .i64 4] 3)).drew.cell? ⟨w.heap.size, 0 + j, none⟩ = some (.int .i64 (([1, 2, 3, 4] : List Int).getD j 0)) := fun j hj => by
  have h := Box.new w 3 (([1, 2, 3, 4] : List Int).map fun z => Value.int .i64 z)
  rw [Nat.zero_add]
  refine h.c j ?_
  rcases (by omega : j = 0 ∨ j = 1 ∨ j = 2 ∨ j = 3) with rfl | rfl | rfl | rfl <;> rfl
set_option maxHeartbeats 3200000 in
set_option maxRecDepth 100000 in
theorem kfirst_any {w : World} {A : Option Addr} {n c : Nat} {l : List Bd} (hl : SlX bdR w A n l) (h1000 : n ≤ 1000) (hs : ∀ b ∈ l, b.name.length ≤ maxLen) :
    Calls Tryd.prog 17 #[.slice A n c] w fun e w' => e = .returned (.map (some w.heap.size)) ∧ MapOf w' w.heap.size n (bound l) ∧ Below w.heap.size w w' := by
  have HL := Lib.hid hl; have HS := Lib.hid hs
  obtain ⟨H, hH⟩ : ∃ H, w.heap.size = H := ⟨_, rfl⟩
  have HH := Lib.hid hH
  rw [hH]
  have hmm := @run_makeMap Tryd.prog
  obtain ⟨w1, hw1, M1, B1, hs1⟩ : ∃ w1, w.alloc (.map #[] 0) = w1 ∧ Hid (MapOf w1 H 0 (bound [])) ∧ Hid (Below H w w1) ∧ Hid (H < w1.heap.size) := ⟨_, rfl, Lib.hid (by rw [← hH]; exact mapOf_new w), Lib.hid ((Below.refl _ _).alloc (Nat.le_of_eq hH.symm) _), Lib.hid (by simp [hH])⟩
  clear hl hs
  go_enter Tryd.func17, Tryd.ntmps17
  go_upto_region 2 with fail
  clear hw1 hmm
  go_wp2_with fail
  go_loopw [11] (fun i wr => ∃ k : Nat, k ≤ n ∧ i = .int .i64 k ∧ Hid (MapOf wr H k (bound (l.take k))) ∧ Hid (Below H w wr) ∧ Hid (H < wr.heap.size)) (fun i _ => n - (intOf i).toNat)
  case atStart => exact ⟨0, Nat.zero_le _, rfl, M1, B1, hs1⟩
  case round =>
    clear M1 B1 hs1
    obtain ⟨k, hk, rfl, I1, I2, I3⟩ := hrel
    by_cases hkn : k < n
    · have gk : (k : Int) < (n : Int) := by omega
      have hkl : k < l.length := by rw [HL.out.1]; exact hkn
      obtain ⟨⟨nm, kd⟩, hb⟩ : ∃ b : Bd, l[k] = b := ⟨_, rfl⟩
      have hmem : (⟨nm, kd⟩ : Bd) ∈ l := by rw [← hb]; exact List.getElem_mem _
      have hns := HS.out _ hmem
      have IE := HL.out.on (by rw [HH.out]; exact I2.out)
      obtain ⟨b, off, rfl, hc⟩ := IE.at hkn
      have hd := hc k hkl
      rw [hb] at hd
      have c0 : wr.cell? ⟨b, off + k * 2, none⟩ = some (.string ⟨nm.toArray⟩) := by simpa [bdR] using hd 0 _ rfl
      have c1 : wr.cell? ⟨b, off + k * 2 + 1, none⟩ = some (.int .i64 kd) := hd 1 _ rfl
      have hsb := World.block_lt_of_cell? wr _ c0
      have htk : l.take (k + 1) = l.take k ++ [⟨nm, kd⟩] := by rw [List.take_succ_eq_append_getElem hkl, hb]
      clear hd hc IE hmem hb
      obtain ⟨w5, hw5, XB, b5⟩ : ∃ w5, wr.alloc (.cells #[.string ⟨nm.toArray⟩, .int .i64 kd] 43) = w5 ∧ Box w5 wr.heap.size [.string ⟨nm.toArray⟩, .int .i64 kd] ∧ Below wr.heap.size wr w5 := ⟨_, rfl, Box.new _ _ [.string ⟨nm.toArray⟩, .int .i64 kd], (Below.refl _ _).alloc (Nat.le_refl _) _⟩
      have x0 : w5.cell? ⟨wr.heap.size, 0, none⟩ = some (.string ⟨nm.toArray⟩) := XB.c 0 rfl
      have x1 : w5.cell? ⟨wr.heap.size, 1, none⟩ = some (.int .i64 kd) := XB.c 1 rfl
      have hsx := XB.1
      have M5 := I1.out.on b5
      have B5 : Hid (Below H w w5) := Lib.hid (I2.out.trans (b5.mono (Nat.le_of_lt I3.out)))
      have S5 : Hid (H < w5.heap.size) := Lib.hid (Nat.lt_of_lt_of_le I3.out b5.size)
      have M5h := Lib.hid M5
      have I3h := I3
      clear XB b5 I1 I2 I3
      cases hbd : bound (l.take k) nm with
      | some z =>
        have hlk := mapOf_hit M5 nm hns hbd
        have MF : Hid (MapOf w5 H (k + 1) (bound (l.take (k + 1)))) := Lib.hid (by
          rw [htk, bound_old hbd]
          obtain ⟨D, h1, h2⟩ := M5h.out
          exact ⟨D, h1.mono (Nat.le_succ k), h2⟩)
        clear M5 M5h htk hbd
        go_wp2_with fail
        exact ⟨⟨k + 1, by omega, by congr 1, MF, B5, S5⟩, by simp [intOf]; omega⟩
      | none =>
        have hlk := mapOf_miss M5 nm hns hbd
        clear M5
        have hHk : H ≠ wr.heap.size := by have := I3h.out; omega
        obtain ⟨w7, hw7, b7, hc7⟩ : ∃ w7, (w5.alloc (.cells #[.int .i64 1, .int .i64 2, .int .i64 3, .int .i64 4] 3)).drew = w7 ∧ Below w5.heap.size w5 w7 ∧ (∀ j, j < 4 → w7.cell? ⟨w5.heap.size, 0 + j, none⟩ = some (.int .i64 ([1, 2, 3, 4].getD j 0))) :=
          ⟨_, rfl, ((Below.refl _ _).alloc (Nat.le_refl _) _).drew, four_cells w5⟩
        have O7 := Lib.hid (koneOf_any w5.heap.size 4 4 [1, 2, 3, 4] kd rfl (by omega) hc7)
        have z0 := (b7.cell (p := ⟨wr.heap.size, 0, none⟩) hsx).trans x0
        have z1 := (b7.cell (p := ⟨wr.heap.size, 1, none⟩) hsx).trans x1
        obtain ⟨w9, hmu, M9, g9⟩ := mapOf_put (M5h.out.on b7) (by unfold maxLen; omega) ⟨nm.toArray⟩ (by simpa [ByteArray.size] using hns) (PCheck.oneOf kd [1, 2, 3, 4]) (oneOf_wf kd)
        have S7 : H < w7.heap.size := Nat.lt_of_lt_of_le S5.out b7.size
        have y0 : w9.cell? ⟨wr.heap.size, 0, none⟩ = some (.string ⟨nm.toArray⟩) := g9.cell z0 (by simp only [ne_eq, Option.some.injEq]; omega)
        have y1 : w9.cell? ⟨wr.heap.size, 1, none⟩ = some (.int .i64 kd) := g9.cell z1 (by simp only [ne_eq, Option.some.injEq]; omega)
        have B9 : Hid (Below H w w9) := Lib.hid ((B5.out.trans (b7.mono (Nat.le_of_lt S5.out))).grown g9 (Nat.le_of_lt S7) (fun _ e => by cases e; exact Nat.le_refl _))
        have S9 : Hid (H < w9.heap.size) := Lib.hid (Nat.lt_of_lt_of_le S7 g9.size)
        have MF : Hid (MapOf w9 H (k + 1) (bound (l.take (k + 1)))) := Lib.hid (by
          rw [htk, bound_fresh hbd]
          exact M9)
        clear M5h M9 b7 hc7 htk hbd g9 hns HS HL
        go_upto_region 7 with fail
        clear hw5 c0 c1 hsb hlk
        go_region_held3 (fun w' => w'.cell? ⟨wr.heap.size, 0, none⟩ = some (.string ⟨nm.toArray⟩) ∧ w'.cell? ⟨wr.heap.size, 1, none⟩ = some (.int .i64 kd))
          (first
            | exact ⟨x0, x1⟩
            | exact ⟨z0, z1⟩
            | exact ⟨y0, y1⟩
            | (rw [hw7]; exact ⟨z0, z1⟩)
            | go_keep)
          (first
            | (go_at_call 27; refine (O7.out).mono ?_; rintro _ _ ⟨rfl, rfl⟩))
        clear O7 x0 x1 z0 z1 y0 y1 hmu hw7
        go_wp2_with fail
        exact ⟨⟨k + 1, by omega, by congr 1, MF, B9, S9⟩, by simp [intOf]; omega⟩
    · obtain rfl : k = n := by omega
      have FIN : Hid (MapOf wr H k (bound l)) := Lib.hid (by have h := I1.out; rw [List.take_of_length_le (by rw [HL.out.1]; omega)] at h; exact h)
      clear I1
      go_wp2_with fail
      go_ret
      exact ⟨rfl, FIN.out, I2.out⟩
end Go.Proofs.YtkmehhhgdeiaeaaDoor
