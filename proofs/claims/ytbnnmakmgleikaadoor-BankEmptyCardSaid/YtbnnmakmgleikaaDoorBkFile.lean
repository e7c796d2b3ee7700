/-
  Is it a file: what the landed bank answers.
-/
import Derived.Test.YtbnnmakmgleikaaDoorBkOrd
import Derived.Test.YtbnnmakmgleikaaDoorBoxKit2
import Derived.Deep.RegionHeld3
set_option linter.unusedVariables false
set_option linter.unusedSimpArgs false
namespace Go.Proofs.YtbnnmakmgleikaaDoor
open Go.RowKit
open PBank (Pay)

theorem c2 {w : World} {H : Nat} {a b : Value} (h : Box w H [a, b]) : w.cell? ⟨H, 0, none⟩ = some a ∧ w.cell? ⟨H, 1, none⟩ = some b := ⟨h.c 0 rfl, h.c 1 rfl⟩
theorem f3 {w : World} {H : Nat} {a b c : Value} (h : Box w H [a, b, c]) : w.frozen? ⟨H, 0, none⟩ = false ∧ w.frozen? ⟨H, 1, none⟩ = false ∧ w.frozen? ⟨H, 2, none⟩ = false := ⟨h.f 0 rfl, h.f 1 rfl, h.f 2 rfl⟩
theorem set3 {w : World} {H : Nat} {a b c : Value} (h : Box w H [a, b, c]) (a' b' c' : Value) :
    ∃ w', ((w.setCell ⟨H, 0, none⟩ a').setCell ⟨H, 1, none⟩ b').setCell ⟨H, 2, none⟩ c' = w' ∧ Box w' H [a', b', c'] ∧ Only H w w' :=
  ⟨_, rfl, ((h.set 0 (by simp) a').set 1 (by simp) b').set 2 (by simp) c', (((Only.refl H w).set 0 a').set 1 b').set 2 c'⟩
def zeroP : List Value := [.int .u8 0, .int .i64 0, .int .i64 0]
theorem cell_keep {w w' : World} {p : Addr} {v : Value} (hb : Below w.heap.size w w') (h : w.cell? p = some v) : w'.cell? p = some v := (hb.cell (World.block_lt_of_cell? w _ h)).trans h
theorem keepB3 {w w' : World} {p q r : Addr} {a b c : Value} (hb : Below w.heap.size w w') (h : w.cell? p = some a ∧ w.cell? q = some b ∧ w.cell? r = some c) : w'.cell? p = some a ∧ w'.cell? q = some b ∧ w'.cell? r = some c := ⟨cell_keep hb h.1, cell_keep hb h.2.1, cell_keep hb h.2.2⟩
theorem keepB7 {w w' : World} {p q r s t u v : Addr} {a b c d e f g : Value} (hb : Below w.heap.size w w') (h : (w.cell? p = some a ∧ w.cell? q = some b ∧ w.cell? r = some c) ∧ (w.cell? s = some d ∧ w.cell? t = some e ∧ w.cell? u = some f) ∧ w.cell? v = some g) : (w'.cell? p = some a ∧ w'.cell? q = some b ∧ w'.cell? r = some c) ∧ (w'.cell? s = some d ∧ w'.cell? t = some e ∧ w'.cell? u = some f) ∧ w'.cell? v = some g := ⟨keepB3 hb h.1, keepB3 hb h.2.1, cell_keep hb h.2.2⟩
theorem good_zero {l : List Pay} {p : Pay} (h : l[0]? = some p) : PBank.good l 0 = PBank.okP p := by
  unfold PBank.good
  rw [List.getD, h]; simp
theorem good_next {l : List Pay} {j : Nat} {p q : Pay} (h : l[j + 1]? = some p) (hq : l[j]? = some q) : PBank.good l (j + 1) = (PBank.okP p && PBank.lt q p) := by
  unfold PBank.good
  rw [List.getD, h, List.getD, show j + 1 - 1 = j from rfl, hq]
  simp
theorem good_bad {l : List Pay} {j : Nat} {p : Pay} (h : l[j]? = some p) (hp : PBank.okP p = false) : PBank.good l j = false := by
  unfold PBank.good
  rw [List.getD, h]; simp [hp]
set_option maxRecDepth 100000 in
set_option maxHeartbeats 6400000 in
theorem kright_any {w : World} {per : Int} {A : Option Addr} {n c : Nat} {l : List Pay} (hS : SlX payR w A n l) (hn : (n : Int) ≤ 9223372036854775807) :
    Calls Tryd.prog 13 #[.agg #[.int .i64 per, .slice A n c]] w (FlagB (decide (PBank.Rt per l)) w) := by
  obtain ⟨Q, hQ⟩ : ∃ Q, FlagB (decide (PBank.Rt per l)) w = Q := ⟨_, rfl⟩
  rw [hQ]
  have F : Hid (∀ (b : Bool) (w' : World), (b = true ↔ PBank.Rt per l) → Below w.heap.size w w' → Q (.returned (.bool b)) w') := Lib.hid (fun b w' h hb => by
    rw [← hQ]
    refine ⟨?_, hb⟩
    have : decide (PBank.Rt per l) = b := by rw [Bool.eq_iff_iff, decide_eq_true_eq, h]
    rw [this])
  obtain ⟨w1, hw1, XB, b1⟩ : ∃ w1, w.alloc (.cells #[.int .i64 per, .slice A n c] 24) = w1 ∧ Box w1 w.heap.size [.int .i64 per, .slice A n c] ∧ Below w.heap.size w w1 := ⟨_, rfl, Box.new _ _ [.int .i64 per, .slice A n c], (Below.refl _ _).alloc (Nat.le_refl _) _⟩
  obtain ⟨x0, x1⟩ := c2 XB
  have hsx := XB.1
  have HL := Lib.hid hS.1
  have HS := Lib.hid (hS.on b1); have HXB := Lib.hid XB
  have B1 := Lib.hid b1; have HW1 := Lib.hid hw1
  clear hQ XB b1 hw1 hS
  by_cases p1 : per < 22800
  · go_enter Tryd.func13, Tryd.ntmps13
    go_upto_region 1 with fail
    rw [HW1.out]
    go_wp2_with fail
    exact F.out _ _ ⟨fun h => (by cases h), fun h => (by have := h.lo; omega)⟩ B1.out
  by_cases p2 : 35999 < per
  · go_enter Tryd.func13, Tryd.ntmps13
    go_upto_region 1 with fail
    rw [HW1.out]
    go_wp2_with fail
    exact F.out _ _ ⟨fun h => (by cases h), fun h => (by have := h.hi; omega)⟩ B1.out
  by_cases p3 : 4999 < n
  · have g3 : (4999 : Int) < (n : Int) := by omega
    go_enter Tryd.func13, Tryd.ntmps13
    go_upto_region 1 with fail
    rw [HW1.out]
    go_wp2_with fail
    exact F.out _ _ ⟨fun h => (by cases h), fun h => (by have := h.few; have := HL.out; omega)⟩ B1.out
  have g3 : ¬ (4999 : Int) < (n : Int) := by omega
  have hn5 : n ≤ 4999 := by omega
  go_enter Tryd.func13, Tryd.ntmps13
  go_upto_region 1 with fail
  rw [HW1.out]
  go_wp2_with fail
  clear x0 x1 hsx
  go_loopw [22] (fun i wr => ∃ j : Nat, i = .int .i64 j ∧ j ≤ n ∧ Hid (∀ i, i < j → PBank.good l i = true) ∧ Hid (Below w1.heap.size w1 wr)) (fun i _ => n - (intOf i).toNat)
  case atStart => exact ⟨0, rfl, Nat.zero_le _, Lib.hid (fun i h => absurd h (Nat.not_lt_zero _)), Lib.hid (Below.refl _ _)⟩
  case round =>
    obtain ⟨j, rfl, hj, J1, J2⟩ := hrel
    by_cases hlt : j < n
    · have gj : (j : Int) < (n : Int) := by omega
      obtain ⟨b, o, rfl, -⟩ := (HS.out.on J2.out).at hlt
      obtain ⟨p, hp⟩ : ∃ p, l[j]? = some p := ⟨_, List.getElem?_eq_getElem (by rw [HL.out]; exact hlt)⟩
      obtain ⟨l0, l1, l2⟩ := pay_cell (HS.out.on J2.out) hlt hp
      have hsl := World.block_lt_of_cell? wr _ l0
      obtain ⟨w9, hw9, SB, b9⟩ : ∃ w9, wr.alloc (.cells #[.int .u8 0, .int .i64 0, .int .i64 0] 44) = w9 ∧ Box w9 wr.heap.size [.int .u8 0, .int .i64 0, .int .i64 0] ∧ Below wr.heap.size wr w9 := ⟨_, rfl, Box.new _ _ [.int .u8 0, .int .i64 0, .int .i64 0], (Below.refl _ _).alloc (Nat.le_refl _) _⟩
      obtain ⟨w10, hw10, X10, ON10⟩ := set3 SB (.int .u8 p.kind) (.int .i64 p.num) (.int .i64 p.amt)
      have b10 : Below wr.heap.size wr w10 := ON10.below (Nat.le_refl _) b9
      have B10 := Lib.hid (below_step J2.out b10)
      obtain ⟨s0, s1, s2⟩ := b3 SB
      obtain ⟨m0, m1, m2⟩ := f3 SB
      have hs9 := SB.1
      obtain ⟨u0, u1, u2⟩ := b3 X10
      have hs10 := X10.1
      have HW10 := Lib.hid hw10; have HP := Lib.hid hp
      have CI := Lib.hid (fun w => kispay_any p w)
      clear SB X10 ON10 b9 b10 hw10 J2 hp
      cases hok : PBank.okP p with
      | false =>
        have CI := Lib.hid (fun w => by have h := CI.out w; rw [hok] at h; exact h)
        have HB : Hid (PBank.good l j = false) := Lib.hid (good_bad HP.out hok)
        clear hok
        go_upto_region 6 with fail
        rw [HW10.out]
        clear HW10 hw9 s0 s1 s2 m0 m1 m2 hs9 l0 l1 l2 hsl
        have Z0 : w10.drew.cell? ⟨wr.heap.size, 0, none⟩ = some (.int .u8 p.kind) ∧ w10.drew.cell? ⟨wr.heap.size, 1, none⟩ = some (.int .i64 p.num) ∧ w10.drew.cell? ⟨wr.heap.size, 2, none⟩ = some (.int .i64 p.amt) := ⟨u0, u1, u2⟩
        have C1 := CI.out w10.drew
        have B11 := Lib.hid (B10.out.drew)
        clear CI u0 u1 u2
        refine wp_region_held_drew (S := fun w' => w'.cell? ⟨wr.heap.size, 0, none⟩ = some (.int .u8 p.kind) ∧ w'.cell? ⟨wr.heap.size, 1, none⟩ = some (.int .i64 p.num) ∧ w'.cell? ⟨wr.heap.size, 2, none⟩ = some (.int .i64 p.amt)) (by kernel_rfl) Z0 (fun hHeld => ?_)
        refine wpAnyH_take (i := 0) (v := .agg #[.int .u8 p.kind, .int .i64 p.num, .int .i64 p.amt]) rfl (by kernel_rfl) (by kernel_rfl) (by kernel_rfl) (fun _ _ _ h => h) (Or.inl ⟨by rfl, ?_⟩) hHeld ?_
        · intro w hSw
          obtain ⟨a0, a1, a2⟩ := hSw
          go_simp
        try simp only [Act.put, List.getElem_toArray, List.getElem_cons_succ, List.getElem_cons_zero, List.setIfInBounds_toArray, List.set_cons_zero, List.set_cons_succ]
        refine wpAnyH_ready (rs := [1]) (by kernel_rfl) (by simp) ?_
        refine AllReadyH.cons rfl (fun K hK => ?_) AllReadyH.nil
        go_simp
        refine C1.mono ?_
        rintro _ w11 ⟨rfl, b11⟩
        refine hK.out _ _ (keepB3 b11 Z0) (fun hHeld => ?_)
        clear hK K
        try simp only [Act.put, List.getElem_toArray, List.getElem_cons_succ, List.getElem_cons_zero, List.setIfInBounds_toArray, List.set_cons_zero, List.set_cons_succ]
        refine wpAnyH_take (i := 2) (v := .bool true) rfl (by kernel_rfl) (by kernel_rfl) (by kernel_rfl) (fun _ _ _ h => h) (Or.inl ⟨by rfl, fun w hSw => by go_simp⟩) hHeld ?_
        try simp only [Act.put, List.getElem_toArray, List.getElem_cons_succ, List.getElem_cons_zero, List.setIfInBounds_toArray, List.set_cons_zero, List.set_cons_succ]
        refine wpAnyH_take (i := 3) (v := .bool true) rfl (by kernel_rfl) (by kernel_rfl) (by kernel_rfl) (fun _ _ _ h => h) (Or.inl ⟨by rfl, fun w hSw => by go_simp⟩) hHeld ?_
        try simp only [Act.put, List.getElem_toArray, List.getElem_cons_succ, List.getElem_cons_zero, List.setIfInBounds_toArray, List.set_cons_zero, List.set_cons_succ]
        refine wpAnyH_take (i := 4) (v := undef) rfl (by kernel_rfl) (by kernel_rfl) (by kernel_rfl) (fun _ _ _ h => h) (Or.inr ⟨by rfl, rfl⟩) hHeld ?_
        try simp only [Act.put, List.getElem_toArray, List.getElem_cons_succ, List.getElem_cons_zero, List.setIfInBounds_toArray, List.set_cons_zero, List.set_cons_succ]
        refine wpAnyH_take (i := 5) (v := undef) rfl (by kernel_rfl) (by kernel_rfl) (by kernel_rfl) (fun _ _ _ h => h) (Or.inr ⟨by rfl, rfl⟩) hHeld ?_
        try simp only [Act.put, List.getElem_toArray, List.getElem_cons_succ, List.getElem_cons_zero, List.setIfInBounds_toArray, List.set_cons_zero, List.set_cons_succ]
        refine wpAnyH_take (i := 6) (v := undef) rfl (by kernel_rfl) (by kernel_rfl) (by kernel_rfl) (fun _ _ _ h => h) (Or.inr ⟨by rfl, rfl⟩) hHeld ?_
        try simp only [Act.put, List.getElem_toArray, List.getElem_cons_succ, List.getElem_cons_zero, List.setIfInBounds_toArray, List.set_cons_zero, List.set_cons_succ]
        refine wpAnyH_take (i := 7) (v := undef) rfl (by kernel_rfl) (by kernel_rfl) (by kernel_rfl) (fun _ _ _ h => h) (Or.inr ⟨by rfl, rfl⟩) hHeld ?_
        try simp only [Act.put, List.getElem_toArray, List.getElem_cons_succ, List.getElem_cons_zero, List.setIfInBounds_toArray, List.set_cons_zero, List.set_cons_succ]
        refine wpAnyH_take (i := 8) (v := undef) rfl (by kernel_rfl) (by kernel_rfl) (by kernel_rfl) (fun _ _ _ h => h) (Or.inr ⟨by rfl, rfl⟩) hHeld ?_
        try simp only [Act.put, List.getElem_toArray, List.getElem_cons_succ, List.getElem_cons_zero, List.setIfInBounds_toArray, List.set_cons_zero, List.set_cons_succ]
        refine wpAnyH_take (i := 9) (v := undef) rfl (by kernel_rfl) (by kernel_rfl) (by kernel_rfl) (fun _ _ _ h => h) (Or.inr ⟨by rfl, rfl⟩) hHeld ?_
        try simp only [Act.put, List.getElem_toArray, List.getElem_cons_succ, List.getElem_cons_zero, List.setIfInBounds_toArray, List.set_cons_zero, List.set_cons_succ]
        refine wpAnyH_take (i := 10) (v := undef) rfl (by kernel_rfl) (by kernel_rfl) (by kernel_rfl) (fun _ _ _ h => h) (Or.inr ⟨by rfl, rfl⟩) hHeld ?_
        try simp only [Act.put, List.getElem_toArray, List.getElem_cons_succ, List.getElem_cons_zero, List.setIfInBounds_toArray, List.set_cons_zero, List.set_cons_succ]
        refine wpAnyH_take (i := 11) (v := undef) rfl (by kernel_rfl) (by kernel_rfl) (by kernel_rfl) (fun _ _ _ h => h) (Or.inr ⟨by rfl, rfl⟩) hHeld ?_
        try simp only [Act.put, List.getElem_toArray, List.getElem_cons_succ, List.getElem_cons_zero, List.setIfInBounds_toArray, List.set_cons_zero, List.set_cons_succ]
        refine wpAnyH_take (i := 12) (v := undef) rfl (by kernel_rfl) (by kernel_rfl) (by kernel_rfl) (fun _ _ _ h => h) (Or.inr ⟨by rfl, rfl⟩) hHeld ?_
        try simp only [Act.put, List.getElem_toArray, List.getElem_cons_succ, List.getElem_cons_zero, List.setIfInBounds_toArray, List.set_cons_zero, List.set_cons_succ]
        refine wpAnyH_take (i := 13) (v := undef) rfl (by kernel_rfl) (by kernel_rfl) (by kernel_rfl) (fun _ _ _ h => h) (Or.inr ⟨by rfl, rfl⟩) hHeld ?_
        try simp only [Act.put, List.getElem_toArray, List.getElem_cons_succ, List.getElem_cons_zero, List.setIfInBounds_toArray, List.set_cons_zero, List.set_cons_succ]
        refine wpAnyH_take (i := 14) (v := undef) rfl (by kernel_rfl) (by kernel_rfl) (by kernel_rfl) (fun _ _ _ h => h) (Or.inr ⟨by rfl, rfl⟩) hHeld ?_
        try simp only [Act.put, List.getElem_toArray, List.getElem_cons_succ, List.getElem_cons_zero, List.setIfInBounds_toArray, List.set_cons_zero, List.set_cons_succ]
        refine wpAnyH_take (i := 15) (v := undef) rfl (by kernel_rfl) (by kernel_rfl) (by kernel_rfl) (fun _ _ _ h => h) (Or.inr ⟨by rfl, rfl⟩) hHeld ?_
        try simp only [Act.put, List.getElem_toArray, List.getElem_cons_succ, List.getElem_cons_zero, List.setIfInBounds_toArray, List.set_cons_zero, List.set_cons_succ]
        refine wpAnyH_take (i := 16) (v := undef) rfl (by kernel_rfl) (by kernel_rfl) (by kernel_rfl) (fun _ _ _ h => h) (Or.inr ⟨by rfl, rfl⟩) hHeld ?_
        try simp only [Act.put, List.getElem_toArray, List.getElem_cons_succ, List.getElem_cons_zero, List.setIfInBounds_toArray, List.set_cons_zero, List.set_cons_succ]
        refine wpAnyH_take (i := 17) (v := .bool true) rfl (by kernel_rfl) (by kernel_rfl) (by kernel_rfl) (fun _ _ _ h => h) (Or.inl ⟨by rfl, fun w hSw => by go_simp⟩) hHeld ?_
        try simp only [Act.put, List.getElem_toArray, List.getElem_cons_succ, List.getElem_cons_zero, List.setIfInBounds_toArray, List.set_cons_zero, List.set_cons_succ]
        refine wpAnyH_done (by kernel_rfl) ?_ _
        have B12 := Lib.hid (below_step B11.out b11)
        clear Z0 b11 C1 hHeld
        go_wp2_with fail
        exact F.out _ _ ⟨fun h => (by cases h), fun h => (by have := h.all j (by have := HL.out; omega); rw [HB.out] at this; cases this)⟩ (below_step B1.out B12.out)
      | true =>
        have CI := Lib.hid (fun w => by have h := CI.out w; rw [hok] at h; exact h)
        have HOK := Lib.hid hok
        clear hok
        go_upto_region 6 with fail
        rw [HW10.out]
        clear HW10 hw9 s0 s1 s2 m0 m1 m2 hs9 l0 l1 l2 hsl
        cases j with
        | zero =>
          have HB : Hid (PBank.good l 0 = true) := Lib.hid (by rw [good_zero HP.out]; exact HOK.out)
          have Z0 : w10.drew.cell? ⟨wr.heap.size, 0, none⟩ = some (.int .u8 p.kind) ∧ w10.drew.cell? ⟨wr.heap.size, 1, none⟩ = some (.int .i64 p.num) ∧ w10.drew.cell? ⟨wr.heap.size, 2, none⟩ = some (.int .i64 p.amt) := ⟨u0, u1, u2⟩
          have C1 := CI.out w10.drew
          have B11 := Lib.hid (B10.out.drew)
          clear CI u0 u1 u2
          refine wp_region_held_drew (S := fun w' => w'.cell? ⟨wr.heap.size, 0, none⟩ = some (.int .u8 p.kind) ∧ w'.cell? ⟨wr.heap.size, 1, none⟩ = some (.int .i64 p.num) ∧ w'.cell? ⟨wr.heap.size, 2, none⟩ = some (.int .i64 p.amt)) (by kernel_rfl) Z0 (fun hHeld => ?_)
          refine wpAnyH_take (i := 0) (v := .agg #[.int .u8 p.kind, .int .i64 p.num, .int .i64 p.amt]) rfl (by kernel_rfl) (by kernel_rfl) (by kernel_rfl) (fun _ _ _ h => h) (Or.inl ⟨by rfl, ?_⟩) hHeld ?_
          · intro w hSw
            obtain ⟨a0, a1, a2⟩ := hSw
            go_simp
          try simp only [Act.put, List.getElem_toArray, List.getElem_cons_succ, List.getElem_cons_zero, List.setIfInBounds_toArray, List.set_cons_zero, List.set_cons_succ]
          refine wpAnyH_ready (rs := [1]) (by kernel_rfl) (by simp) ?_
          refine AllReadyH.cons rfl (fun K hK => ?_) AllReadyH.nil
          go_simp
          refine C1.mono ?_
          rintro _ w11 ⟨rfl, b11⟩
          refine hK.out _ _ (keepB3 b11 Z0) (fun hHeld => ?_)
          clear hK K
          try simp only [Act.put, List.getElem_toArray, List.getElem_cons_succ, List.getElem_cons_zero, List.setIfInBounds_toArray, List.set_cons_zero, List.set_cons_succ]
          refine wpAnyH_take (i := 2) (v := .bool false) rfl (by kernel_rfl) (by kernel_rfl) (by kernel_rfl) (fun _ _ _ h => h) (Or.inl ⟨by rfl, fun w hSw => by go_simp⟩) hHeld ?_
          try simp only [Act.put, List.getElem_toArray, List.getElem_cons_succ, List.getElem_cons_zero, List.setIfInBounds_toArray, List.set_cons_zero, List.set_cons_succ]
          refine wpAnyH_take (i := 3) (v := .bool false) rfl (by kernel_rfl) (by kernel_rfl) (by kernel_rfl) (fun _ _ _ h => h) (Or.inl ⟨by rfl, fun w hSw => by go_simp⟩) hHeld ?_
          try simp only [Act.put, List.getElem_toArray, List.getElem_cons_succ, List.getElem_cons_zero, List.setIfInBounds_toArray, List.set_cons_zero, List.set_cons_succ]
          refine wpAnyH_take (i := 4) (v := .int .i64 0) rfl (by kernel_rfl) (by kernel_rfl) (by kernel_rfl) (fun _ _ _ h => h) (Or.inl ⟨by rfl, fun w hSw => by go_simp⟩) hHeld ?_
          try simp only [Act.put, List.getElem_toArray, List.getElem_cons_succ, List.getElem_cons_zero, List.setIfInBounds_toArray, List.set_cons_zero, List.set_cons_succ]
          refine wpAnyH_take (i := 5) (v := .bool false) rfl (by kernel_rfl) (by kernel_rfl) (by kernel_rfl) (fun _ _ _ h => h) (Or.inl ⟨by rfl, fun w hSw => by go_simp⟩) hHeld ?_
          try simp only [Act.put, List.getElem_toArray, List.getElem_cons_succ, List.getElem_cons_zero, List.setIfInBounds_toArray, List.set_cons_zero, List.set_cons_succ]
          refine wpAnyH_take (i := 6) (v := .bool false) rfl (by kernel_rfl) (by kernel_rfl) (by kernel_rfl) (fun _ _ _ h => h) (Or.inl ⟨by rfl, fun w hSw => by go_simp⟩) hHeld ?_
          try simp only [Act.put, List.getElem_toArray, List.getElem_cons_succ, List.getElem_cons_zero, List.setIfInBounds_toArray, List.set_cons_zero, List.set_cons_succ]
          refine wpAnyH_take (i := 7) (v := undef) rfl (by kernel_rfl) (by kernel_rfl) (by kernel_rfl) (fun _ _ _ h => h) (Or.inr ⟨by rfl, rfl⟩) hHeld ?_
          try simp only [Act.put, List.getElem_toArray, List.getElem_cons_succ, List.getElem_cons_zero, List.setIfInBounds_toArray, List.set_cons_zero, List.set_cons_succ]
          refine wpAnyH_take (i := 8) (v := undef) rfl (by kernel_rfl) (by kernel_rfl) (by kernel_rfl) (fun _ _ _ h => h) (Or.inr ⟨by rfl, rfl⟩) hHeld ?_
          try simp only [Act.put, List.getElem_toArray, List.getElem_cons_succ, List.getElem_cons_zero, List.setIfInBounds_toArray, List.set_cons_zero, List.set_cons_succ]
          refine wpAnyH_take (i := 9) (v := undef) rfl (by kernel_rfl) (by kernel_rfl) (by kernel_rfl) (fun _ _ _ h => h) (Or.inr ⟨by rfl, rfl⟩) hHeld ?_
          try simp only [Act.put, List.getElem_toArray, List.getElem_cons_succ, List.getElem_cons_zero, List.setIfInBounds_toArray, List.set_cons_zero, List.set_cons_succ]
          refine wpAnyH_take (i := 10) (v := undef) rfl (by kernel_rfl) (by kernel_rfl) (by kernel_rfl) (fun _ _ _ h => h) (Or.inr ⟨by rfl, rfl⟩) hHeld ?_
          try simp only [Act.put, List.getElem_toArray, List.getElem_cons_succ, List.getElem_cons_zero, List.setIfInBounds_toArray, List.set_cons_zero, List.set_cons_succ]
          refine wpAnyH_take (i := 11) (v := undef) rfl (by kernel_rfl) (by kernel_rfl) (by kernel_rfl) (fun _ _ _ h => h) (Or.inr ⟨by rfl, rfl⟩) hHeld ?_
          try simp only [Act.put, List.getElem_toArray, List.getElem_cons_succ, List.getElem_cons_zero, List.setIfInBounds_toArray, List.set_cons_zero, List.set_cons_succ]
          refine wpAnyH_take (i := 12) (v := undef) rfl (by kernel_rfl) (by kernel_rfl) (by kernel_rfl) (fun _ _ _ h => h) (Or.inr ⟨by rfl, rfl⟩) hHeld ?_
          try simp only [Act.put, List.getElem_toArray, List.getElem_cons_succ, List.getElem_cons_zero, List.setIfInBounds_toArray, List.set_cons_zero, List.set_cons_succ]
          refine wpAnyH_take (i := 13) (v := undef) rfl (by kernel_rfl) (by kernel_rfl) (by kernel_rfl) (fun _ _ _ h => h) (Or.inr ⟨by rfl, rfl⟩) hHeld ?_
          try simp only [Act.put, List.getElem_toArray, List.getElem_cons_succ, List.getElem_cons_zero, List.setIfInBounds_toArray, List.set_cons_zero, List.set_cons_succ]
          refine wpAnyH_take (i := 14) (v := undef) rfl (by kernel_rfl) (by kernel_rfl) (by kernel_rfl) (fun _ _ _ h => h) (Or.inr ⟨by rfl, rfl⟩) hHeld ?_
          try simp only [Act.put, List.getElem_toArray, List.getElem_cons_succ, List.getElem_cons_zero, List.setIfInBounds_toArray, List.set_cons_zero, List.set_cons_succ]
          refine wpAnyH_take (i := 15) (v := undef) rfl (by kernel_rfl) (by kernel_rfl) (by kernel_rfl) (fun _ _ _ h => h) (Or.inr ⟨by rfl, rfl⟩) hHeld ?_
          try simp only [Act.put, List.getElem_toArray, List.getElem_cons_succ, List.getElem_cons_zero, List.setIfInBounds_toArray, List.set_cons_zero, List.set_cons_succ]
          refine wpAnyH_take (i := 16) (v := .bool false) rfl (by kernel_rfl) (by kernel_rfl) (by kernel_rfl) (fun _ _ _ h => h) (Or.inl ⟨by rfl, fun w hSw => by go_simp⟩) hHeld ?_
          try simp only [Act.put, List.getElem_toArray, List.getElem_cons_succ, List.getElem_cons_zero, List.setIfInBounds_toArray, List.set_cons_zero, List.set_cons_succ]
          refine wpAnyH_take (i := 17) (v := .bool false) rfl (by kernel_rfl) (by kernel_rfl) (by kernel_rfl) (fun _ _ _ h => h) (Or.inl ⟨by rfl, fun w hSw => by go_simp⟩) hHeld ?_
          try simp only [Act.put, List.getElem_toArray, List.getElem_cons_succ, List.getElem_cons_zero, List.setIfInBounds_toArray, List.set_cons_zero, List.set_cons_succ]
          refine wpAnyH_done (by kernel_rfl) ?_ _
          have B12 := Lib.hid (below_step B11.out b11)
          clear Z0 b11 C1 hHeld
          go_wp2_with fail
          exact ⟨⟨0 + 1, rfl, by omega, Lib.hid (fun i h => by obtain rfl : i = 0 := by omega
                                                               exact HB.out), B12⟩, by simp [intOf]; omega⟩
        | succ j =>
          obtain ⟨q, hq⟩ : ∃ q, l[j]? = some q := ⟨_, List.getElem?_eq_getElem (by rw [HL.out]; omega)⟩
          have HSX := HS.out.on B10.out
          obtain ⟨q0, q1, q2⟩ := pay_cell HSX (show j < n by omega) hq
          obtain ⟨fx0, fx1⟩ := c2 (HXB.out.on B10.out)
          have hsq := World.block_lt_of_cell? w10 _ q0
          have hsf := (HXB.out.on B10.out).1
          have gi0 : (0 : Int) ≤ (j : Int) := by omega
          have gw1 : IntKind.i64.wrap ((j : Int) + 1 - 1) = (j : Int) := by rw [IntKind.wrap_i64]; omega
          have gw2 : IntKind.i64.wrap (j : Int) = (j : Int) := by rw [IntKind.wrap_i64]; omega
          have gw3 : (j : Int) + 1 - 1 = (j : Int) := by omega
          have gtn : ((j : Int)).toNat = j := by omega
          have gpos : decide ((0 : Int) < ((j + 1 : Nat) : Int)) = true := decide_eq_true (by omega)
          have gj5 : (j : Int) < (n : Int) := by omega
          have HGN : Hid (PBank.good l (j + 1) = PBank.lt q p) := Lib.hid (by rw [good_next HP.out hq, HOK.out, Bool.true_and])
          have CC := Lib.hid (fun w => kcompare_any q p w)
          obtain ⟨z, hz⟩ : ∃ z, cmpV q p = z := ⟨_, rfl⟩
          have HZ : Hid (z < 0 ↔ PBank.lt q p = true) := Lib.hid (by rw [← hz]; exact cmpV_lt q p)
          rw [hz] at CC
          clear hz HSX hq
          have Z0 : (w10.drew.cell? ⟨wr.heap.size, 0, none⟩ = some (.int .u8 p.kind) ∧ w10.drew.cell? ⟨wr.heap.size, 1, none⟩ = some (.int .i64 p.num) ∧ w10.drew.cell? ⟨wr.heap.size, 2, none⟩ = some (.int .i64 p.amt)) ∧ (w10.drew.cell? ⟨b, o + j * 3, none⟩ = some (.int .u8 q.kind) ∧ w10.drew.cell? ⟨b, o + j * 3 + 1, none⟩ = some (.int .i64 q.num) ∧ w10.drew.cell? ⟨b, o + j * 3 + 2, none⟩ = some (.int .i64 q.amt)) ∧ w10.drew.cell? ⟨w.heap.size, 1, none⟩ = some (.slice (some ⟨b, o, none⟩) n c) := ⟨⟨u0, u1, u2⟩, ⟨q0, q1, q2⟩, fx1⟩
          have C1 := CI.out w10.drew
          have B11 := Lib.hid (B10.out.drew)
          clear CI u0 u1 u2 q0 q1 q2 fx0 fx1
          go_region_held3 (fun w' => (w'.cell? ⟨wr.heap.size, 0, none⟩ = some (.int .u8 p.kind) ∧ w'.cell? ⟨wr.heap.size, 1, none⟩ = some (.int .i64 p.num) ∧ w'.cell? ⟨wr.heap.size, 2, none⟩ = some (.int .i64 p.amt)) ∧ (w'.cell? ⟨b, o + j * 3, none⟩ = some (.int .u8 q.kind) ∧ w'.cell? ⟨b, o + j * 3 + 1, none⟩ = some (.int .i64 q.num) ∧ w'.cell? ⟨b, o + j * 3 + 2, none⟩ = some (.int .i64 q.amt)) ∧ w'.cell? ⟨w.heap.size, 1, none⟩ = some (.slice (some ⟨b, o, none⟩) n c))
                (first
                  | with_reducible exact Z0
                  | with_reducible exact Z1
                  | with_reducible exact Z2)
                (first
                  | (go_at_call 22; (with_reducible refine C1.mono ?_); rintro _ w11 ⟨rfl, b11⟩; have Z1 := keepB7 b11 Z0; have C2 := CC.out w11)
                  | (go_at_call 23; (with_reducible refine C2.mono ?_); rintro _ w12 ⟨rfl, b12⟩; have Z2 := keepB7 b12 Z1))
          all_goals
            have B12 := Lib.hid (below_step (below_step B11.out b11) b12)
            clear Z0 Z1 Z2 b11 b12 C1 C2 CC
            by_cases hzz : z < 0
            · have gz : ¬ (0 : Int) ≤ z := by omega
              have HB : Hid (PBank.good l (j + 1) = true) := Lib.hid (by rw [HGN.out]; exact HZ.out.1 hzz)
              go_wp2_with fail
              exact ⟨⟨j + 1 + 1, by congr 1, by omega, Lib.hid (fun i h => by
                by_cases e : i = j + 1
                · rw [e]; exact HB.out
                · exact J1.out i (by omega)), B12⟩, by simp [intOf]; omega⟩
            · have gz : (0 : Int) ≤ z := by omega
              have HB : Hid (PBank.good l (j + 1) = false) := Lib.hid (by rw [HGN.out, Bool.eq_false_iff]; exact fun h => hzz (HZ.out.2 h))
              go_wp2_with fail
              exact F.out _ _ ⟨fun h => (by cases h), fun h => (by have := h.all (j + 1) (by have := HL.out; omega); rw [HB.out] at this; cases this)⟩ (below_step B1.out B12.out)
    · obtain rfl : j = n := by omega
      have gj : ¬ (j : Int) < (j : Int) := by omega
      go_wp2_with fail
      exact F.out _ _ ⟨fun _ => ⟨p1, p2, by rw [HL.out]; omega, fun i h => J1.out i (by rw [← HL.out]; exact h)⟩, fun _ => rfl⟩ (below_step B1.out J2.out)
end Go.Proofs.YtbnnmakmgleikaaDoor
