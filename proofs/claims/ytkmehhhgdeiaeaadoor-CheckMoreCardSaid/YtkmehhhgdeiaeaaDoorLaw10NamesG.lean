/-
  CheckNames answers true, where awake does.
-/
import Derived.Test.YtkmehhhgdeiaeaaDoorCheckKindG
namespace Go.Proofs.YtkmehhhgdeiaeaaDoor
open Go.RowKit
open PCheck (Xp Bd bound)

/-- The fixed answer is true. -/
def Aw10 : Prop := ∀ w : World, Calls Tryd.prog 11 #[] w fun e w' => e = .returned (.bool true) ∧ Below w.heap.size w w'
/-- A law's answer. -/
def TrueB (w : World) (e : Ending) (w' : World) : Prop := e = .returned (.bool true) ∧ Below w.heap.size w w'
theorem slx_one (w : World) (t : TypeId) (x : Xp) : SlX xpR (w.alloc (.cells (xpC x).toArray t)) (some ⟨w.heap.size, 0, none⟩) 1 [x] := by
  refine ⟨rfl, .inr ⟨w.heap.size, 0, rfl, fun i hi j v e => ?_⟩⟩
  obtain rfl : i = 0 := by simp at hi; exact hi
  have h := (Box.new w t (xpC x)).c j e
  simpa using h
theorem bound_at {l : List Bd} {k : Nat} (hk : k < l.length) {n : List UInt8} (h0 : bound (l.take k) n = none) (h : l[k].name = n) : bound l n = some (PCheck.oneOf l[k].kind [1, 2, 3, 4]) := by
  have e1 : bound (l.take (k + 1)) n = some (PCheck.oneOf l[k].kind [1, 2, 3, 4]) := by
    rw [List.take_succ_eq_append_getElem hk, bound_snoc, h0]
    simp only []
    rw [if_pos h]
  have e2 := PCheck.bound_more (l.drop (k + 1)) e1
  rw [List.take_append_drop] at e2
  exact e2
theorem bound_miss {l : List Bd} {k : Nat} (hk : k < l.length) {n : List UInt8} (h0 : bound (l.take k) n = none) (h : l[k].name ≠ n) : bound (l.take (k + 1)) n = none := by
  rw [List.take_succ_eq_append_getElem hk, bound_snoc, h0]
  simp only []
  rw [if_neg h]
theorem oneOf_in {k : Int} (h1 : ¬ k < 1) (h2 : ¬ 4 < k) : PCheck.oneOf k [1, 2, 3, 4] = k := by
  unfold PCheck.oneOf
  rw [if_pos]
  simp only [List.mem_cons, List.not_mem_nil, or_false]
  omega
theorem oneOf_out {k : Int} (h : k < 1 ∨ 4 < k) : PCheck.oneOf k [1, 2, 3, 4] = 0 := by
  unfold PCheck.oneOf
  rw [if_neg]
  simp only [List.mem_cons, List.not_mem_nil, or_false]
  omega
theorem kind_name3 (l : List Bd) (s : List UInt8) : ∃ (k : Int) (e : Nat), PCheck.kind [⟨PCheck.nameS, s, 0, 0, 0, 0⟩] 0 l = (k, 0, e) ∧ (bound l s = none → k = 0 ∧ e = 5) ∧ (bound l s = some 0 → k = 0 ∧ e = 7) ∧ ∀ z, z ≠ 0 → bound l s = some z → k = z ∧ e = 0 := by
  have h := PCheck.kind_name (l := l) s 0 0 0 0
  cases hb : bound l s with
  | none =>
    rw [hb] at h
    exact ⟨0, 5, h, fun _ => ⟨rfl, rfl⟩, fun e => (by cases e), fun _ _ e => (by cases e)⟩
  | some z =>
    rw [hb] at h
    by_cases hz : z = 0
    · subst hz
      exact ⟨0, 7, h, fun e => (by cases e), fun _ => ⟨rfl, rfl⟩, fun z hz e => absurd (Option.some.inj e).symm hz⟩
    · simp only [] at h
      rw [if_neg hz] at h
      exact ⟨z, 0, h, fun e => (by cases e), fun e => absurd (Option.some.inj e) hz, fun z _ e => ⟨Option.some.inj e, rfl⟩⟩
set_option maxHeartbeats 6400000 in
set_option maxRecDepth 100000 in
theorem names_walk (HA : Aw10) {w : World} {LA : Option Addr} {ln lc : Nat} {l : List Bd} {s : List UInt8} (hL : SlX bdR w LA ln l) (hln : ∀ b ∈ l, b.name.length ≤ maxLen) (hll : (ln : Int) ≤ 9223372036854775807) (hs : s.length ≤ maxLen) :
    Calls Tryd.prog 6 #[.string ⟨s.toArray⟩, .slice LA ln lc] w (TrueB w) := by
  obtain ⟨Q, hQ⟩ : ∃ Q, TrueB w = Q := ⟨_, rfl⟩
  rw [hQ]
  have HQ := Lib.hid hQ; have HAh := Lib.hid HA; have HL := Lib.hid hL
  have es : (ByteArray.mk s.toArray).size = s.length := by simp [ByteArray.size]
  clear hQ HA
  by_cases g60 : (60 : Int) < (ln : Int)
  · clear hL
    go_enter Tryd.func6, Tryd.ntmps6
    go_wp2_with fail
    refine (HAh.out _).mono ?_
    rintro _ w2 ⟨rfl, b2⟩
    go_wp2_with fail
    rw [← HQ.out]
    exact ⟨rfl, b2⟩
  by_cases g30 : (30 : Int) < (s.length : Int)
  · clear hL
    go_enter Tryd.func6, Tryd.ntmps6
    go_wp2_with fail
    refine (HAh.out _).mono ?_
    rintro _ w2 ⟨rfl, b2⟩
    go_wp2_with fail
    rw [← HQ.out]
    exact ⟨rfl, b2⟩
  obtain ⟨fk, fe, hk, k1, k2, k3⟩ := kind_name3 l s
  have HK1 := Lib.hid k1; have HK2 := Lib.hid k2; have HK3 := Lib.hid k3
  obtain ⟨w1, hw1, b1, X1⟩ : ∃ w1, w.alloc (.cells #[.string ⟨#[110, 97, 109, 101]⟩, .string ⟨s.toArray⟩, .int .i64 0, .int .i64 0, .int .i64 0, .int .i64 0] 45) = w1 ∧ Below w.heap.size w w1 ∧ SlX xpR w1 (some ⟨w.heap.size, 0, none⟩) 1 [⟨PCheck.nameS, s, 0, 0, 0, 0⟩] :=
    ⟨_, rfl, (Below.refl _ _).alloc (Nat.le_refl _) _, slx_one w 45 ⟨PCheck.nameS, s, 0, 0, 0, 0⟩⟩
  have KD := kKind_any (TA := none) (tn := 0) (tc := 0) (c := 1) (lc := lc) (r := 0) X1 (Nat.le_refl _) (hL.on b1) (by omega) (by omega) (fun x hx => by obtain rfl := List.mem_singleton.1 hx; exact hs) hln
  rw [hk] at KD
  have HKD := Lib.hid KD; have HW1 := Lib.hid hw1; have B1 := Lib.hid b1
  clear k1 k2 k3 hk KD hw1 b1 X1 hL hln
  go_enter Tryd.func6, Tryd.ntmps6
  go_upto_region 3 with fail
  go_wp2_with fail
  rw [HW1.out]
  refine (HKD.out).mono ?_
  rintro _ w2 ⟨rfl, b2⟩
  have B2 := Lib.hid (below_step B1.out b2)
  clear b2 HKD HW1 B1
  go_wp2_with fail
  go_loopw [31] (fun q wx => ∃ k : Nat, k ≤ ln ∧ q = .int .i64 k ∧ Hid (bound (l.take k) s = none) ∧ Hid (Below w.heap.size w wx)) (fun q _ => ln - (intOf q).toNat)
  case atStart => exact ⟨0, Nat.zero_le _, rfl, Lib.hid rfl, B2⟩
  case round =>
    clear B2
    obtain ⟨k, hk, rfl, I1, I2⟩ := hrel
    by_cases hkn : k < ln
    · have gk : (k : Int) < (ln : Int) := by omega
      have hkl : k < l.length := by rw [HL.out.1]; exact hkn
      obtain ⟨⟨nm, kd⟩, hb⟩ : ∃ b : Bd, l[k] = b := ⟨_, rfl⟩
      have IE := HL.out.on I2.out
      obtain ⟨b, off, rfl, hc⟩ := IE.at hkn
      have hd := hc k hkl
      rw [hb] at hd
      have c0 : wr.cell? ⟨b, off + k * 2, none⟩ = some (.string ⟨nm.toArray⟩) := by simpa [bdR] using hd 0 _ rfl
      have c1 : wr.cell? ⟨b, off + k * 2 + 1, none⟩ = some (.int .i64 kd) := hd 1 _ rfl
      have hsb := World.block_lt_of_cell? wr _ c0
      clear hd hc IE
      obtain ⟨w5, hw5, XB, b5⟩ : ∃ w5, wr.alloc (.cells #[.string ⟨nm.toArray⟩, .int .i64 kd] 43) = w5 ∧ Box w5 wr.heap.size [.string ⟨nm.toArray⟩, .int .i64 kd] ∧ Below wr.heap.size wr w5 := ⟨_, rfl, Box.new _ _ [.string ⟨nm.toArray⟩, .int .i64 kd], (Below.refl _ _).alloc (Nat.le_refl _) _⟩
      have x0 : w5.cell? ⟨wr.heap.size, 0, none⟩ = some (.string ⟨nm.toArray⟩) := XB.c 0 rfl
      have x1 : w5.cell? ⟨wr.heap.size, 1, none⟩ = some (.int .i64 kd) := XB.c 1 rfl
      have hsx := XB.1
      have B5 := Lib.hid (below_step I2.out b5)
      clear XB b5 I2
      go_upto_region 7 with fail
      clear hw5 c0 c1 hsb
      by_cases hns : nm = s
      · have hbd := bound_at hkl I1.out (by rw [hb]; exact hns)
        rw [hb] at hbd
        subst hns
        by_cases hlo : kd < 1
        · obtain ⟨rfl, rfl⟩ := HK2.out (by rw [hbd]; exact congrArg some (oneOf_out (.inl hlo)))
          clear hbd hb I1 HK1 HK2 HK3
          go_wp2_with fail
          refine (HAh.out _).mono ?_
          rintro _ w7 ⟨rfl, b7⟩
          have B7 := Lib.hid (below_step B5.out b7)
          clear b7 B5
          go_wp2_with fail
          rw [← HQ.out]
          exact ⟨rfl, B7.out⟩
        · by_cases hhi : 4 < kd
          · obtain ⟨rfl, rfl⟩ := HK2.out (by rw [hbd]; exact congrArg some (oneOf_out (.inr hhi)))
            clear hbd hb I1 HK1 HK2 HK3
            go_wp2_with fail
            refine (HAh.out _).mono ?_
            rintro _ w7 ⟨rfl, b7⟩
            have B7 := Lib.hid (below_step B5.out b7)
            clear b7 B5
            go_wp2_with fail
            rw [← HQ.out]
            exact ⟨rfl, B7.out⟩
          · obtain ⟨rfl, rfl⟩ := HK3.out kd (by omega) (by rw [hbd]; exact congrArg some (oneOf_in hlo hhi))
            clear hbd hb I1 HK1 HK2 HK3
            go_wp2_with fail
            refine (HAh.out _).mono ?_
            rintro _ w7 ⟨rfl, b7⟩
            have B7 := Lib.hid (below_step B5.out b7)
            clear b7 B5
            go_wp2_with fail
            rw [← HQ.out]
            exact ⟨rfl, B7.out⟩
      · have hne : (nm == s) = false := by rw [beq_eq_false_iff_ne]; exact hns
        have FIN : Hid (bound (l.take (k + 1)) s = none) := Lib.hid (bound_miss hkl I1.out (by rw [hb]; exact hns))
        clear hb I1 hns HK1 HK2 HK3
        go_wp2_with fail
        exact ⟨⟨k + 1, by omega, by congr 1, FIN, B5⟩, by simp [intOf]; omega⟩
    · obtain rfl : k = ln := by omega
      have hbd : bound l s = none := by have h := I1.out; rw [List.take_of_length_le (by rw [HL.out.1]; omega)] at h; exact h
      obtain ⟨rfl, rfl⟩ := HK1.out hbd
      clear hbd I1 HK1 HK2 HK3
      go_wp2_with fail
      refine (HAh.out _).mono ?_
      rintro _ w7 ⟨rfl, b7⟩
      have B7 := Lib.hid (below_step I2.out b7)
      clear b7 I2
      go_wp2_with fail
      rw [← HQ.out]
      exact ⟨rfl, B7.out⟩
end Go.Proofs.YtkmehhhgdeiaeaaDoor
