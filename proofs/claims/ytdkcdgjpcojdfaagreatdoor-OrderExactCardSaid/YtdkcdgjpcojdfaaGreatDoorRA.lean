/-
  What the reference of layer 11 answers: whether a number is in a list; the names that are there from the beginning.
  What the reference of layer 11 answers: whether a rule of what was read hangs on another one.
  What the reference of layer 11 answers: whether a rule of what was read may stand next.
-/
import Derived.Test.YtdkcdgjpcojdfaaGreatDoorSM
import Derived.Test.YtdkcdgjpcojdfaaGreatDoorKT
import Derived.Test.YtdkcdgjpcojdfaaGreatDoorCheckRowsG
import Derived.Test.YtdkcdgjpcojdfaaGreatDoorBK
import Derived.Deep.QuietTactic
import Derived.BigQuiet
import Derived.Handy
import Derived.Test.YtdkcdgjpcojdfaaGreatDoorSX
import Derived.Test.YtdkcdgjpcojdfaaGreatDoorRM
import Derived.Deep.RegionHeld3

set_option linter.unusedVariables false
namespace Go.Proofs.YtdkcdgjpcojdfaaGreatDoor
open Go.RowKit

def plI (l : List Nat) : List Int := l.map fun i => ((i : Nat) : Int)
theorem plI_len (l : List Nat) : (plI l).length = l.length := by unfold plI; rw [List.length_map]
theorem int_at {w : World} {A : Option Addr} {n : Nat} {L : List Int} (h : SlX intR w A n L) {q : Nat} (hq : q < n) : ∃ b o x, A = some ⟨b, o, none⟩ ∧ L[q]? = some x ∧ w.cell? ⟨b, o + q, none⟩ = some (.int .i64 x) := by
  obtain ⟨b, o, rfl, hc⟩ := h.at hq
  have hl : q < L.length := by rw [h.1]; exact hq
  have := hc q hl 0 _ rfl
  have hk : intR.k = 1 := rfl
  rw [hk, Nat.mul_one, Nat.add_zero] at this
  exact ⟨b, o, L[q], rfl, List.getElem?_eq_getElem hl, this⟩
set_option maxHeartbeats 1600000 in
theorem r11in_any {w : World} {A : Option Addr} {n c i : Nat} {l : List Nat} (h : SlX intR w A n (plI l)) (hn : n ≤ 100000) :
    Calls Tryz.prog 36 #[.slice A n c, .int .i64 (i : Nat)] w fun e w' => e = .returned (.bool (l.contains i)) ∧ w = w' := by
  obtain ⟨z, hz⟩ : ∃ z, l.contains i = z := ⟨_, rfl⟩
  rw [hz]
  have hln : l.length = n := by rw [← plI_len]; exact h.1
  have H := Lib.hid h; have HZ := Lib.hid hz; have HLN := Lib.hid hln
  clear h hz hln
  go_enter Tryz.func36, Tryz.ntmps36
  go_wp2_with fail
  go_loop [5] (fun x => ∃ (t : Nat), t ≤ n ∧ x = .int .i64 t ∧ Hid (∀ j (h : j < l.length), j < t → l[j] ≠ i)) (fun x => n - (intOf x).toNat)
  case atStart => exact ⟨0, Nat.zero_le _, rfl, (show Hid _ from fun j _ h => absurd h (Nat.not_lt_zero _))⟩
  case round =>
    obtain ⟨t, ht, rfl, HT⟩ := hrel
    by_cases hlt : t < n
    · have hll : t < l.length := by rw [HLN.out]; exact hlt
      obtain ⟨b, o, x, rfl, hx, c0⟩ := int_at H.out hlt
      have hx : x = ((l[t] : Nat) : Int) := by
        unfold plI at hx
        rw [List.getElem?_map, List.getElem?_eq_getElem hll] at hx
        exact (Option.some.inj hx).symm
      obtain ⟨y, hy⟩ : ∃ y, l[t] = y := ⟨_, rfl⟩
      rw [hy] at hx
      subst hx
      have hsz := World.block_lt_of_cell? w _ c0
      have gt : (t : Int) < (n : Int) := by omega
      by_cases e : y = i
      · have HR : Hid (true = z) := Lib.hid (by rw [← HZ.out]; exact (by simpa using (by rw [← e, ← hy]; exact List.getElem_mem hll : i ∈ l) : l.contains i = true).symm)
        clear hy
        subst e
        go_wp2_with fail
        go_ret
        exact ⟨by rw [← HR.out]; rfl, rfl⟩
      · have he : ((y : Int) == (i : Int)) = false := by rw [beq_eq_false_iff_ne]; omega
        have HT2 : Hid (∀ j (h : j < l.length), j < t + 1 → l[j] ≠ i) := Lib.hid (fun j h1 h2 => by
          by_cases ej : j = t
          · subst ej; rw [hy]; exact e
          · exact HT.out j h1 (by omega))
        clear e hy
        go_wp2_with fail
        exact ⟨⟨t + 1, by omega, rfl, HT2⟩, by simp [intOf]; omega⟩
    · have HR : Hid (false = z) := Lib.hid (by
        rw [← HZ.out]
        refine (?_ : l.contains i = false).symm
        rw [List.contains_eq_mem, decide_eq_false_iff_not]
        intro k
        obtain ⟨j, hj, e⟩ := List.getElem_of_mem k
        exact HT.out j hj (by have := HLN.out; omega) e)
      have gt : ¬ (t : Int) < (n : Int) := by omega
      go_wp2_with fail
      go_ret
      exact ⟨by rw [← HR.out]; rfl, rfl⟩
def InsAns (w : World) (e : Ending) (w' : World) : Prop := ∃ A c, e = .returned (.slice A 5 c) ∧ SlX bdR w' A 5 POrd.inB ∧ (A = none → c = 0) ∧ 5 ≤ c ∧ (∀ a, A = some a → w.heap.size ≤ a.block) ∧ Below w.heap.size w w'
theorem ins_new (w : World) (t : TypeId) (l : List PCheck.Bd) : SlX bdR (w.alloc (.cells (bdR.cells l).toArray t)) (some ⟨w.heap.size, 0, none⟩) l.length l := by
  have h := Box.new w t (bdR.cells l)
  refine ⟨rfl, .inr ⟨_, 0, rfl, fun i hi j v e => ?_⟩⟩
  rw [Nat.zero_add]
  exact h.c _ (bdR.cells_get l i hi j v e)
set_option maxHeartbeats 1600000 in
theorem r11inputs_any (w : World) : Calls Tryz.prog 17 #[] w (InsAns w) := by
  obtain ⟨Q, hQ⟩ : ∃ Q, InsAns w = Q := ⟨_, rfl⟩
  rw [hQ]
  have FIN : Hid (Q (.returned (.slice (some ⟨w.heap.size, 0, none⟩) 5 5)) (w.alloc (.cells #[.string { data := #[98, 97, 115, 101] }, .int .i64 1, .string { data := #[98, 111, 110, 117, 115] }, .int .i64 1, .string { data := #[104, 111, 117, 114, 115] }, .int .i64 3, .string { data := #[100, 97, 121, 115] }, .int .i64 3, .string { data := #[108, 101, 97, 100] }, .int .i64 4] 50))) := Lib.hid (by
    rw [← hQ]
    exact ⟨_, 5, rfl, ins_new w 50 POrd.inB, (fun e => by cases e), Nat.le_refl _, (fun a e => by cases e; exact Nat.le_refl _), (Below.refl _ _).alloc (Nat.le_refl _) _⟩)
  clear hQ
  go_enter Tryz.func17, Tryz.ntmps17
  go_wp2_with fail
  exact FIN.out
set_option maxHeartbeats 1600000 in
theorem kinputs_any (w : World) : Calls Tryz.prog 16 #[] w (InsAns w) := by
  obtain ⟨Q, hQ⟩ : ∃ Q, InsAns w = Q := ⟨_, rfl⟩
  rw [hQ]
  have FIN : Hid (Q (.returned (.slice (some ⟨w.heap.size, 0, none⟩) 5 5)) (w.alloc (.cells #[.string { data := #[98, 97, 115, 101] }, .int .i64 1, .string { data := #[98, 111, 110, 117, 115] }, .int .i64 1, .string { data := #[104, 111, 117, 114, 115] }, .int .i64 3, .string { data := #[100, 97, 121, 115] }, .int .i64 3, .string { data := #[108, 101, 97, 100] }, .int .i64 4] 49))) := Lib.hid (by
    rw [← hQ]
    exact ⟨_, 5, rfl, ins_new w 49 POrd.inB, (fun e => by cases e), Nat.le_refl _, (fun a e => by cases e; exact Nat.le_refl _), (Below.refl _ _).alloc (Nat.le_refl _) _⟩)
  clear hQ
  go_enter Tryz.func16, Tryz.ntmps16
  go_wp2_with fail
  exact FIN.out
end Go.Proofs.YtdkcdgjpcojdfaaGreatDoor

set_option linter.unusedVariables false
namespace Go.Proofs.YtdkcdgjpcojdfaaGreatDoor
open Go.RowKit
open PCheck (Xp Bd made)
open PTree (Tr Rl Ex Wf X0)

def FlagAns (b : Bool) (w : World) (e : Ending) (w' : World) : Prop := e = .returned (.bool b) ∧ Below w.heap.size w w'
theorem keep3r {w w' : World} {p0 p1 p2 : Addr} {a b c : Value} (hb : Below w.heap.size w w') (h : w.cell? p0 = some a ∧ w.cell? p1 = some b ∧ w.cell? p2 = some c) : w'.cell? p0 = some a ∧ w'.cell? p1 = some b ∧ w'.cell? p2 = some c :=
  ⟨(hb.cell (World.block_lt_of_cell? w _ h.1)).trans h.1, (hb.cell (World.block_lt_of_cell? w _ h.2.1)).trans h.2.1, (hb.cell (World.block_lt_of_cell? w _ h.2.2)).trans h.2.2⟩
theorem below_drewX (w : World) (q : Nat) : Below w.heap.size w (w.drewN q) := ⟨rfl, rfl, rfl, Nat.le_refl _, fun _ _ => rfl⟩
set_option maxHeartbeats 12800000 in
set_option maxRecDepth 100000 in
theorem r11hangs_any {w : World} {n c rn rc : Nat} {A RA : Option Addr} {rs : List Rl} (hR : SlX rlR w RA rn (rwX rs)) (hE : SlX xpR w A n (xpX rs)) (hW : ∀ r ∈ rs, Wf X0 r.tree) (hn : n ≤ 1000) (hrn : rn ≤ 1000) {i k : Nat} (hi : i < rn) (hk : k < rn) :
    Calls Tryz.prog 18 #[.agg #[.slice RA rn rc, .slice A n c], .int .i64 (i : Nat), .int .i64 (k : Nat)] w (FlagAns (POrd.hangs rs i k) w) := by
  obtain ⟨z, hz⟩ : ∃ z, POrd.hangs rs i k = z := ⟨_, rfl⟩
  rw [hz]
  obtain ⟨Q, hQ⟩ : ∃ Q, FlagAns z w = Q := ⟨_, rfl⟩
  rw [hQ]
  have FIN : Hid (∀ (b : Bool) (w' : World), b = z → Below w.heap.size w w' → Q (.returned (.bool b)) w') := Lib.hid (fun b w' e a => by rw [← hQ, e]; exact ⟨rfl, a⟩)
  have hrl : rs.length = rn := by rw [← rwX_len rs]; exact hR.1
  have hEl : (xpX rs).length = n := hE.1
  obtain ⟨r, hr⟩ : ∃ r, rs[i]? = some r := ⟨_, List.getElem?_eq_getElem (by omega)⟩
  obtain ⟨q, hq⟩ : ∃ q, rs[k]? = some q := ⟨_, List.getElem?_eq_getElem (by omega)⟩
  obtain ⟨m, hm, hml, hmj, hmk⟩ := hang_marks hW hr
  have hh := hmk k q hq
  rw [hz] at hh
  have hsz := offs_le hr
  have hsl : PTree.sizeOf rs = n := by rw [← hEl]; unfold xpX; rw [List.length_map, PTree.exprsOf_len]
  have hpos := r.tree.size_pos
  obtain ⟨R, hRt⟩ : ∃ R, offs rs i + r.tree.size = R + 1 := ⟨offs rs i + r.tree.size - 1, by omega⟩
  have hra := rw_at hr
  have hqa := rw_at hq
  rw [hRt, Nat.add_sub_cancel] at hm hra
  rw [hRt] at hml
  have hRn : R < n := by omega
  obtain ⟨w1, hw1, XB, b1⟩ : ∃ w1, w.alloc (.cells #[.slice RA rn rc, .slice A n c] 26) = w1 ∧ Box w1 w.heap.size [.slice RA rn rc, .slice A n c] ∧ Below w.heap.size w w1 := ⟨_, rfl, Box.new _ _ [.slice RA rn rc, .slice A n c], (Below.refl _ _).alloc (Nat.le_refl _) _⟩
  have R1 := hR.on b1
  have E1 := hE.on b1
  obtain ⟨rb, ro, rfl, cR⟩ := R1.at hi
  obtain ⟨hil, hie⟩ := List.getElem?_eq_some_iff.1 hra
  obtain ⟨hkl, hke⟩ := List.getElem?_eq_some_iff.1 hqa
  have l2 := cR i hil 2 (.int .i64 (R : Int)) (by rw [hie]; rfl)
  have lk := cR k hkl 1 (.string ⟨q.name.toArray⟩) (by rw [hke]; rfl)
  have l2 : w1.cell? ⟨rb, ro + i * 3 + 2, none⟩ = some (.int .i64 (R : Int)) := l2
  have lk : w1.cell? ⟨rb, ro + k * 3 + 1, none⟩ = some (.string ⟨q.name.toArray⟩) := lk
  have CM := rmade_in (RA := some ⟨rb, ro, none⟩) (rn := rn) (rc := rc) (c := c) (E1.on ((Below.refl _ _).drew : Below w1.heap.size w1 w1.drew)) hRn hn
  rw [hm] at CM
  obtain ⟨x0, x1⟩ := px2 XB
  have hsx := XB.1
  have hsr := World.block_lt_of_cell? w1 _ l2
  have ZZ : w1.drew.cell? ⟨w.heap.size, 0, none⟩ = some (.slice (some ⟨rb, ro, none⟩) rn rc) ∧ w1.drew.cell? ⟨w.heap.size, 1, none⟩ = some (.slice A n c) ∧ w1.drew.cell? ⟨rb, ro + i * 3 + 2, none⟩ = some (.int .i64 (R : Int)) := ⟨x0, x1, l2⟩
  have BD := Lib.hid ((Below.refl _ _).drew : Below w1.heap.size w1 w1.drew)
  have HXB := Lib.hid XB; have B1 := Lib.hid b1; have HW1 := Lib.hid hw1; have E1 := Lib.hid E1; have HLK := Lib.hid lk; have HEL := Lib.hid hEl
  have HH := Lib.hid hh; have HML := Lib.hid hml; have HRN := Lib.hid hRn
  have gi : (i : Int) < (rn : Int) := by omega
  have gk : (k : Int) < (rn : Int) := by omega
  obtain ⟨qn, hqn⟩ : ∃ qn, q.name = qn := ⟨_, rfl⟩
  rw [hqn] at HH HLK
  clear hQ hz hR hE hr hq hm hmj hmk hh hsz hsl hpos hRt hra hqa cR hil hie hkl hke R1 XB b1 hw1 lk hEl hml hrl hW hqn
  go_enter Tryz.func18, Tryz.ntmps18
  go_upto_region 1 with fail
  rw [HW1.out]
  clear HW1
  go_region_held3 (fun w' => w'.cell? ⟨w.heap.size, 0, none⟩ = some (.slice (some ⟨rb, ro, none⟩) rn rc) ∧ w'.cell? ⟨w.heap.size, 1, none⟩ = some (.slice A n c) ∧ w'.cell? ⟨rb, ro + i * 3 + 2, none⟩ = some (.int .i64 (R : Int)))
    (first
      | with_reducible exact ZZ
      | with_reducible exact Z3)
    (first
      | (go_at_call 39; (with_reducible refine CM.mono ?_); intro e3 w3 h3; obtain ⟨b3, rfl, rw3⟩ := h3; have Z3 := keep3r b3 ZZ))
  have B03 := below_step BD.out b3
  have HB3 := Lib.hid (below_step B1.out B03); have HXB3 := Lib.hid (HXB.out.on B03); have HE3 := Lib.hid (E1.out.on B03); have HRW := Lib.hid rw3
  have HLK3 : Hid (w3.cell? ⟨rb, ro + k * 3 + 1, none⟩ = some (.string ⟨qn.toArray⟩)) := Lib.hid ((B03.cell (World.block_lt_of_cell? w1 _ HLK.out)).trans HLK.out)
  clear b3 rw3 Z3 ZZ CM B03 HXB B1 E1 HLK BD x0 x1 hsx hsr l2
  go_wp2_with fail
  go_loopw [9] (fun x wx => ∃ j : Nat, x = .int .i64 j ∧ j ≤ R + 1 ∧ Hid (∀ j', j' < j → ¬ ∃ y : Xp, m[j']? = some true ∧ (xpX rs)[j']? = some y ∧ y.op = PCheck.nameS ∧ y.name = qn) ∧ Hid (Below w3.heap.size w3 wx)) (fun x _ => R + 1 - (intOf x).toNat)
  case atStart => exact ⟨0, rfl, Nat.zero_le _, (show Hid _ from fun j h => absurd h (Nat.not_lt_zero _)), Lib.hid (Below.refl _ _)⟩
  case round =>
    obtain ⟨j, rfl, hj, I1, I2⟩ := hrel
    by_cases hjR : j < R + 1
    · have gj : (j : Int) < ((R + 1 : Nat) : Int) := by omega
      have gj' : (j : Int) < (R : Int) + 1 := by omega
      have hjn : j < n := by have := HRN.out; omega
      have gjn : (j : Int) < (n : Int) := by omega
      have hjE : j < (xpX rs).length := by rw [HEL.out]; exact hjn
      obtain ⟨⟨op, nm, vl, ya, yb, yc⟩, hx⟩ : ∃ x, (xpX rs)[j] = x := ⟨_, rfl⟩
      have hx1 : (xpX rs)[j]? = some ⟨op, nm, vl, ya, yb, yc⟩ := by rw [List.getElem?_eq_getElem hjE, hx]
      obtain ⟨ab, ao, rfl, cE⟩ := (HE3.out.on I2.out).at hjn
      have cx := cE j hjE
      rw [hx] at cx
      have l0 : wr.cell? ⟨ab, ao + j * 6, none⟩ = some (.string ⟨op.toArray⟩) := cx 0 _ rfl
      have l1 : wr.cell? ⟨ab, ao + j * 6 + 1, none⟩ = some (.string ⟨nm.toArray⟩) := cx 1 _ rfl
      have lk : wr.cell? ⟨rb, ro + k * 3 + 1, none⟩ = some (.string ⟨qn.toArray⟩) := (I2.out.cell (World.block_lt_of_cell? w3 _ HLK3.out)).trans HLK3.out
      have lm : wr.cell? ⟨w1.heap.size + 1, j, none⟩ = some (.bool (m.getD j false)) := ((HRW.out.on I2.out).2 j hjR).1
      obtain ⟨x0, x1⟩ := px2 (HXB3.out.on I2.out)
      have s0 := World.block_lt_of_cell? wr _ l0; have s1 := World.block_lt_of_cell? wr _ lk; have s2 := World.block_lt_of_cell? wr _ lm; have s3 := World.block_lt_of_cell? wr _ x0
      obtain ⟨mb, hmb⟩ : ∃ mb, m.getD j false = mb := ⟨_, rfl⟩
      rw [hmb] at lm
      clear cE cx hx
      have NEXT : Hid ((¬ (mb = true ∧ op = PCheck.nameS ∧ nm = qn)) → ∀ j', j' < j + 1 → ¬ ∃ y : Xp, m[j']? = some true ∧ (xpX rs)[j']? = some y ∧ y.op = PCheck.nameS ∧ y.name = qn) := Lib.hid (fun hno j' hj' => by
        by_cases e : j' = j
        · subst e
          rintro ⟨y, g1, g2, g3, g4⟩
          rw [hx1] at g2; cases g2
          exact hno ⟨by rw [← hmb, List.getD, g1]; rfl, g3, g4⟩
        · exact I1.out j' (by omega))
      have HMB := Lib.hid hmb; have HX1 := Lib.hid hx1
      clear hmb hx1 hjE I1
      cases mb with
      | false =>
        have ND := Lib.hid (NEXT.out (fun h => by cases h.1))
        clear NEXT
        go_upto_region 5 with fail
        go_quiet (fail)
        have HBQ := Lib.hid (I2.out.trans ((below_drewX wr nq).mono I2.out.size))
        go_wp2_with fail
        exact ⟨⟨j + 1, rfl, by omega, ND, HBQ⟩, by simp [intOf]; omega⟩
      | true =>
        by_cases ho : op = PCheck.nameS
        · simp only [PCheck.nameS] at ho
          by_cases hq : nm = qn
          · have HR : Hid (true = z) := Lib.hid (by
              refine (HH.out.2 ⟨j, _, ?_, HX1.out, ho, hq⟩).symm
              have := HMB.out
              rw [List.getD] at this
              cases h : m[j]? with
              | none => rw [h] at this; cases this
              | some b => rw [h] at this; cases this; rfl)
            subst ho; subst hq
            have gq : (nm == nm) = true := beq_self_eq_true _
            clear NEXT
            go_upto_region 5 with fail
            go_quiet (fail)
            have HBQ := Lib.hid (HB3.out.trans ((I2.out.trans ((below_drewX wr nq).mono I2.out.size)).mono HB3.out.size))
            go_wp2_with fail
            exact FIN.out _ _ HR.out HBQ.out
          · have ND := Lib.hid (NEXT.out (fun h => hq h.2.2))
            subst ho
            have gq : (nm == qn) = false := beq_eq_false_iff_ne.2 hq
            clear NEXT hq
            go_upto_region 5 with fail
            go_quiet (fail)
            have HBQ := Lib.hid (I2.out.trans ((below_drewX wr nq).mono I2.out.size))
            go_wp2_with fail
            exact ⟨⟨j + 1, rfl, by omega, ND, HBQ⟩, by simp [intOf]; omega⟩
        · have ND := Lib.hid (NEXT.out (fun h => ho h.2.1))
          have go : (op == [110, 97, 109, 101]) = false := beq_eq_false_iff_ne.2 ho
          clear NEXT ho
          go_upto_region 5 with fail
          go_quiet (fail)
          have HBQ := Lib.hid (I2.out.trans ((below_drewX wr nq).mono I2.out.size))
          go_wp2_with fail
          exact ⟨⟨j + 1, rfl, by omega, ND, HBQ⟩, by simp [intOf]; omega⟩
    · obtain rfl : j = R + 1 := by omega
      have HR : Hid (false = z) := Lib.hid (by
        cases hzz : z with
        | false => rfl
        | true =>
          obtain ⟨j', y, g1, g2, g3, g4⟩ := HH.out.1 hzz
          have : j' < m.length := (List.getElem?_eq_some_iff.1 g1).1
          exact absurd ⟨y, g1, g2, g3, g4⟩ (I1.out j' (by rw [HML.out] at this; exact this)))
      have gj : ¬ ((R + 1 : Nat) : Int) < ((R + 1 : Nat) : Int) := by omega
      clear hjR I1
      go_wp2_with fail
      exact FIN.out _ _ HR.out (HB3.out.trans (I2.out.mono HB3.out.size))
end Go.Proofs.YtdkcdgjpcojdfaaGreatDoor

set_option linter.unusedVariables false
namespace Go.Proofs.YtdkcdgjpcojdfaaGreatDoor
open Go.RowKit
open PCheck (Xp Bd made)
open PTree (Tr Rl Ex Wf X0)

theorem r11in_as {w : World} {A : Option Addr} {n c i : Nat} {l : List Nat} {b : Bool} (h : SlX intR w A n (plI l)) (hn : n ≤ 100000) (hb : l.contains i = b) :
    Calls Tryz.prog 36 #[.slice A n c, .int .i64 (i : Nat)] w fun e w' => e = .returned (.bool b) ∧ w = w' := by
  subst hb; exact r11in_any h hn
set_option maxHeartbeats 6400000 in
set_option maxRecDepth 100000 in
theorem r11free_any {w : World} {n c rn rc ln lc : Nat} {A RA LA : Option Addr} {rs : List Rl} {l : List Nat} (hR : SlX rlR w RA rn (rwX rs)) (hE : SlX xpR w A n (xpX rs)) (hL : SlX intR w LA ln (plI l)) (hW : ∀ r ∈ rs, Wf X0 r.tree) (hn : n ≤ 1000) (hrn : rn ≤ 1000) (hln : ln ≤ 1000) {i : Nat} (hi : i < rn) :
    Calls Tryz.prog 35 #[.agg #[.slice RA rn rc, .slice A n c], .slice LA ln lc, .int .i64 (i : Nat)] w (FlagAns (POrd.free rn (POrd.hangs rs) l i) w) := by
  obtain ⟨z, hz⟩ : ∃ z, POrd.free rn (POrd.hangs rs) l i = z := ⟨_, rfl⟩
  rw [hz]
  obtain ⟨Q, hQ⟩ : ∃ Q, FlagAns z w = Q := ⟨_, rfl⟩
  rw [hQ]
  have FIN : Hid (∀ (b : Bool) (w' : World), b = z → Below w.heap.size w w' → Q (.returned (.bool b)) w') := Lib.hid (fun b w' e a => by rw [← hQ, e]; exact ⟨rfl, a⟩)
  obtain ⟨w1, hw1, XB, b1⟩ : ∃ w1, w.alloc (.cells #[.slice RA rn rc, .slice A n c] 26) = w1 ∧ Box w1 w.heap.size [.slice RA rn rc, .slice A n c] ∧ Below w.heap.size w w1 := ⟨_, rfl, Box.new _ _ [.slice RA rn rc, .slice A n c], (Below.refl _ _).alloc (Nat.le_refl _) _⟩
  have L1 := hL.on b1
  have HXB := Lib.hid XB; have B1 := Lib.hid b1; have HW1 := Lib.hid hw1; have HL := Lib.hid L1; have HR := Lib.hid (hR.on b1); have HE := Lib.hid (hE.on b1); have HZ := Lib.hid hz; have HWf := Lib.hid hW
  clear hQ hR hE hL hW XB b1 hw1 hz L1
  by_cases hil : l.contains i = true
  · have CI := Lib.hid (r11in_as (c := lc) HL.out (by omega) hil)
    have HZ0 : Hid (false = z) := Lib.hid (by rw [← HZ.out]; unfold POrd.free; rw [hil]; rfl)
    clear hil
    go_enter Tryz.func35, Tryz.ntmps35
    go_upto_region 1 with fail
    rw [HW1.out]
    go_wp2_with (go_at_call 36; refine CI.out.mono ?_; rintro _ _ ⟨rfl, rfl⟩)
    exact FIN.out _ _ HZ0.out B1.out
  · have hil : l.contains i = false := by simpa using hil
    have CI := Lib.hid (r11in_as (c := lc) HL.out (by omega) hil)
    have HIL : Hid (i ∉ l) := Lib.hid (by simpa using hil)
    clear hil
    go_enter Tryz.func35, Tryz.ntmps35
    go_upto_region 1 with fail
    rw [HW1.out]
    go_wp2_with (go_at_call 36; refine CI.out.mono ?_; rintro _ _ ⟨rfl, rfl⟩)
    clear CI HW1
    go_loopw [7] (fun x wx => ∃ k : Nat, x = .int .i64 k ∧ k ≤ rn ∧ Hid (∀ k', k' < k → POrd.hangs rs i k' = true → k' ∈ l) ∧ Hid (Below w1.heap.size w1 wx)) (fun x _ => rn - (intOf x).toNat)
    case atStart => exact ⟨0, rfl, Nat.zero_le _, (show Hid _ from fun j h => absurd h (Nat.not_lt_zero _)), Lib.hid (Below.refl _ _)⟩
    case round =>
      obtain ⟨k, rfl, hk, I1, I2⟩ := hrel
      obtain ⟨x0, x1⟩ := px2 (HXB.out.on I2.out)
      have hsx := (HXB.out.on I2.out).1
      by_cases hkn : k < rn
      · have gk : (k : Int) < (rn : Int) := by omega
        obtain ⟨hb, hhb⟩ : ∃ hb, POrd.hangs rs i k = hb := ⟨_, rfl⟩
        have ch := r11hangs_any (rc := rc) (c := c) (HR.out.on I2.out) (HE.out.on I2.out) HWf.out hn hrn hi hkn
        rw [hhb] at ch
        have CH := Lib.hid ch
        have HHB := Lib.hid hhb
        clear ch hhb
        cases hb with
        | false =>
          have NX : Hid (∀ k', k' < k + 1 → POrd.hangs rs i k' = true → k' ∈ l) := Lib.hid (fun k' h1 h2 => by
            by_cases e : k' = k
            · subst e; rw [HHB.out] at h2; cases h2
            · exact I1.out k' (by omega) h2)
          clear I1 HHB
          go_wp2_with (go_at_call 18; refine CH.out.mono ?_)
          intro e3 w3 h3
          obtain ⟨rfl, b3⟩ := h3
          have B3 := Lib.hid (I2.out.trans (b3.mono I2.out.size))
          clear b3 CH
          go_wp2_with fail
          exact ⟨⟨k + 1, rfl, by omega, NX, B3⟩, by simp [intOf]; omega⟩
        | true =>
          by_cases hkl : l.contains k = true
          · have NX : Hid (∀ k', k' < k + 1 → POrd.hangs rs i k' = true → k' ∈ l) := Lib.hid (fun k' h1 h2 => by
              by_cases e : k' = k
              · subst e; simpa using hkl
              · exact I1.out k' (by omega) h2)
            have CK := Lib.hid (fun (wz : World) (hz : Below w1.heap.size w1 wz) => r11in_as (c := lc) (HL.out.on hz) (by omega) hkl)
            clear I1 HHB hkl
            go_wp2_with (go_at_call 18; refine CH.out.mono ?_)
            intro e3 w3 h3
            obtain ⟨rfl, b3⟩ := h3
            have B3 := Lib.hid (I2.out.trans (b3.mono I2.out.size))
            have CK3 := Lib.hid (CK.out w3 B3.out)
            clear b3 CH CK
            go_wp2_with (go_at_call 36; refine CK3.out.mono ?_; rintro _ _ ⟨rfl, rfl⟩)
            exact ⟨⟨k + 1, rfl, by omega, NX, B3⟩, by simp [intOf]; omega⟩
          · have hkl : l.contains k = false := by simpa using hkl
            have HR0 : Hid (false = z) := Lib.hid (by
              rw [← HZ.out]
              cases hf : POrd.free rn (POrd.hangs rs) l i with
              | false => rfl
              | true => exact absurd ((POrd.free_iff.1 hf).2 k hkn HHB.out) (by simpa using hkl))
            have CK := Lib.hid (fun (wz : World) (hz : Below w1.heap.size w1 wz) => r11in_as (c := lc) (HL.out.on hz) (by omega) hkl)
            clear I1 HHB hkl
            go_wp2_with (go_at_call 18; refine CH.out.mono ?_)
            intro e3 w3 h3
            obtain ⟨rfl, b3⟩ := h3
            have B3 := Lib.hid (I2.out.trans (b3.mono I2.out.size))
            have CK3 := Lib.hid (CK.out w3 B3.out)
            clear b3 CH CK
            go_wp2_with (go_at_call 36; refine CK3.out.mono ?_; rintro _ _ ⟨rfl, rfl⟩)
            exact FIN.out _ _ HR0.out (B1.out.trans (B3.out.mono B1.out.size))
      · obtain rfl : k = rn := by omega
        have HR0 : Hid (true = z) := Lib.hid (by rw [← HZ.out]; exact (POrd.free_iff.2 ⟨HIL.out, fun k' h1 h2 => I1.out k' h1 h2⟩).symm)
        have gk : ¬ (k : Int) < (k : Int) := by omega
        clear I1 hkn
        go_wp2_with fail
        exact FIN.out _ _ HR0.out (B1.out.trans (I2.out.mono B1.out.size))
end Go.Proofs.YtdkcdgjpcojdfaaGreatDoor
