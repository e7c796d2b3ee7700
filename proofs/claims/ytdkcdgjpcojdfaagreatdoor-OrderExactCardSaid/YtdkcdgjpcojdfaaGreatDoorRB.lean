/-
  What the reference of layer 11 answers: the first rule whose name is there ahead of it.
  What the reference of layer 11 answers: the order of the rules of what was read, or the error.
-/
import Derived.Test.YtdkcdgjpcojdfaaGreatDoorRA
import Derived.Test.YtdkcdgjpcojdfaaGreatDoorRM

set_option linter.unusedVariables false
namespace Go.Proofs.YtdkcdgjpcojdfaaGreatDoor
open Go.RowKit
open PCheck (Xp Bd made)
open PTree (Tr Rl Ex Wf X0)

def nmR (RL : List Rw) : List (List UInt8) := RL.map (·.2.1)
theorem nmR_len (RL : List Rw) : (nmR RL).length = RL.length := by unfold nmR; rw [List.length_map]
def plO (o : Option Nat) : Int := match o with
  | some i => ((i : Nat) : Int)
  | none => -1
def NumAns (z : Int) (w : World) (e : Ending) (w' : World) : Prop := e = .returned (.int .i64 z) ∧ Below w.heap.size w w'
theorem rl_cell {w : World} {b o n : Nat} {RL : List Rw} (h : SlX rlR w (some ⟨b, o, none⟩) n RL) {i : Nat} (hi : i < n) {x : Rw} (hx : RL[i]? = some x) : w.cell? ⟨b, o + i * 3, none⟩ = some (.string ⟨x.1.toArray⟩) ∧ w.cell? ⟨b, o + i * 3 + 1, none⟩ = some (.string ⟨x.2.1.toArray⟩) ∧ w.cell? ⟨b, o + i * 3 + 2, none⟩ = some (.int .i64 x.2.2) := by
  obtain ⟨b', o', e, hc⟩ := h.at hi
  cases e
  obtain ⟨hl, rfl⟩ := List.getElem?_eq_some_iff.1 hx
  exact ⟨hc i hl 0 _ rfl, hc i hl 1 _ rfl, hc i hl 2 _ rfl⟩
theorem dup_false {names : List (List UInt8)} {i : Nat} {s : List UInt8} (hs : names[i]? = some s) (h1 : s ∉ POrd.inN) (h2 : ∀ k, k < i → names[k]? ≠ some s) : POrd.dup names i = false := by
  unfold POrd.dup
  rw [List.contains_eq_mem, decide_eq_false_iff_not, List.mem_append, show names.getD i [] = s by rw [List.getD, hs]; rfl]
  rintro (h | h)
  · exact h1 h
  · obtain ⟨k, hk, e⟩ := List.getElem_of_mem h
    have hk2 : k < i := by rw [List.length_take] at hk; omega
    refine h2 k hk2 ?_
    have : (names.take i)[k]? = some s := by rw [List.getElem?_eq_getElem hk, e]
    rwa [List.getElem?_take, if_pos hk2] at this
theorem dup_in {names : List (List UInt8)} {i : Nat} {s : List UInt8} (hs : names[i]? = some s) (h : s ∈ POrd.inN) : POrd.dup names i = true := by
  unfold POrd.dup
  rw [List.contains_eq_mem, decide_eq_true_eq, List.mem_append, show names.getD i [] = s by rw [List.getD, hs]; rfl]
  exact .inl h
theorem dup_old {names : List (List UInt8)} {i k : Nat} {s : List UInt8} (hs : names[i]? = some s) (hk : k < i) (h : names[k]? = some s) : POrd.dup names i = true := by
  unfold POrd.dup
  rw [List.contains_eq_mem, decide_eq_true_eq, List.mem_append, show names.getD i [] = s by rw [List.getD, hs]; rfl]
  refine .inr (List.mem_of_getElem? (i := k) ?_)
  rw [List.getElem?_take, if_pos hk]; exact h
theorem ins_name {j : Nat} (h : j < 5) : ∃ b, POrd.inB[j]? = some b ∧ POrd.inN[j]? = some b.name := by
  rcases (by omega : j = 0 ∨ j = 1 ∨ j = 2 ∨ j = 3 ∨ j = 4) with rfl | rfl | rfl | rfl | rfl <;> exact ⟨_, rfl, rfl⟩
theorem bd_cell {w : World} {b o n : Nat} {L : List Bd} (h : SlX bdR w (some ⟨b, o, none⟩) n L) {i : Nat} (hi : i < n) {x : Bd} (hx : L[i]? = some x) : w.cell? ⟨b, o + i * 2, none⟩ = some (.string ⟨x.name.toArray⟩) ∧ w.cell? ⟨b, o + i * 2 + 1, none⟩ = some (.int .i64 x.kind) := by
  obtain ⟨b', o', e, hc⟩ := h.at hi
  cases e
  obtain ⟨hl, rfl⟩ := List.getElem?_eq_some_iff.1 hx
  exact ⟨hc i hl 0 _ rfl, hc i hl 1 _ rfl⟩
set_option maxHeartbeats 6400000 in
set_option maxRecDepth 100000 in
theorem r11twice_any {w : World} {n c rn rc : Nat} {A RA : Option Addr} {RL : List Rw} (hR : SlX rlR w RA rn RL) (hrn : rn ≤ 1000) :
    Calls Tryz.prog 34 #[.agg #[.slice RA rn rc, .slice A n c]] w (NumAns (plO (POrd.twice (nmR RL))) w) := by
  obtain ⟨Q, hQ⟩ : ∃ Q, NumAns (plO (POrd.twice (nmR RL))) w = Q := ⟨_, rfl⟩
  rw [hQ]
  have hRn : RL.length = rn := hR.1
  have hnl : (nmR RL).length = rn := by rw [nmR_len]; exact hRn
  have FIN1 : Hid (∀ (i : Nat) (w' : World), i < rn → POrd.dup (nmR RL) i = true → (∀ j, j < i → POrd.dup (nmR RL) j = false) → Below w.heap.size w w' → Q (.returned (.int .i64 (i : Nat))) w') := Lib.hid (fun i w' h1 h2 h3 a => by
    rw [← hQ]
    refine ⟨?_, a⟩
    unfold POrd.twice
    rw [POrd.least_some (by rw [hnl]; exact h1) h2 h3]; rfl)
  have FIN2 : Hid (∀ (w' : World), (∀ j, j < rn → POrd.dup (nmR RL) j = false) → Below w.heap.size w w' → Q (.returned (.int .i64 (-1))) w') := Lib.hid (fun w' h3 a => by
    rw [← hQ]
    refine ⟨?_, a⟩
    unfold POrd.twice
    rw [POrd.least_none (by rw [hnl]; exact h3)]; rfl)
  obtain ⟨w1, hw1, XB, b1⟩ : ∃ w1, w.alloc (.cells #[.slice RA rn rc, .slice A n c] 26) = w1 ∧ Box w1 w.heap.size [.slice RA rn rc, .slice A n c] ∧ Below w.heap.size w w1 := ⟨_, rfl, Box.new _ _ [.slice RA rn rc, .slice A n c], (Below.refl _ _).alloc (Nat.le_refl _) _⟩
  have HXB := Lib.hid XB; have B1 := Lib.hid b1; have HW1 := Lib.hid hw1; have HR := Lib.hid (hR.on b1); have HRN := Lib.hid hRn
  clear hQ hR XB b1 hw1 hRn hnl
  go_enter Tryz.func34, Tryz.ntmps34
  go_upto_region 1 with fail
  rw [HW1.out]
  clear HW1
  go_wp2_with fail
  go_loopw [3] (fun x wx => ∃ i : Nat, x = .int .i64 i ∧ i ≤ rn ∧ Hid (∀ j, j < i → POrd.dup (nmR RL) j = false) ∧ Hid (Below w1.heap.size w1 wx)) (fun x _ => rn - (intOf x).toNat)
  case atStart => exact ⟨0, rfl, Nat.zero_le _, (show Hid _ from fun j h => absurd h (Nat.not_lt_zero _)), Lib.hid (Below.refl _ _)⟩
  case round =>
    obtain ⟨i, rfl, hi, I1, I2⟩ := hrel
    obtain ⟨wo, hwo⟩ : ∃ wo, wo = wr := ⟨_, rfl⟩
    subst hwo
    obtain ⟨x0, x1⟩ := px2 (HXB.out.on I2.out)
    have hsx := (HXB.out.on I2.out).1
    by_cases hin : i < rn
    · have gi : (i : Int) < (rn : Int) := by omega
      have hiR : i < RL.length := by rw [HRN.out]; exact hin
      obtain ⟨⟨ra, nm, rr⟩, hx⟩ : ∃ x, RL[i]? = some x := ⟨_, List.getElem?_eq_getElem hiR⟩
      have hnm : (nmR RL)[i]? = some nm := by unfold nmR; rw [List.getElem?_map, hx]; rfl
      obtain ⟨rb, ro, rfl, -⟩ := (HR.out.on I2.out).at hin
      have HNM := Lib.hid hnm; have HX := Lib.hid hx
      have CI := Lib.hid (r11inputs_any wo)
      clear hnm hx
      go_wp2_with (go_at_call 17; refine CI.out.mono ?_)
      intro e2 w2 h2
      obtain ⟨IA, ic, rfl, is, -, -, -, b2⟩ := h2
      have HIS := Lib.hid is
      have I22 := Lib.hid (I2.out.trans (b2.mono I2.out.size))
      clear is b2 CI x0 x1 hsx I2
      go_wp2_with fail
      go_loopw [16] (fun x wx => ∃ j : Nat, x = .int .i64 j ∧ j ≤ 5 ∧ Hid (∀ j', j' < j → POrd.inN[j']? ≠ some nm) ∧ Hid (Below w2.heap.size w2 wx)) (fun x _ => 5 - (intOf x).toNat)
      case atStart => exact ⟨0, rfl, Nat.zero_le _, (show Hid _ from fun j h => absurd h (Nat.not_lt_zero _)), Lib.hid (Below.refl _ _)⟩
      case round =>
        obtain ⟨j, rfl, hj, J1, J2⟩ := hrel
        have IW := I22.out.trans (J2.out.mono I22.out.size)
        have HIW := Lib.hid IW
        obtain ⟨x0, x1⟩ := px2 (HXB.out.on IW)
        have hsx := (HXB.out.on IW).1
        obtain ⟨-, lnm, -⟩ := rl_cell (HR.out.on IW) hin HX.out
        have lnm : wr.cell? ⟨rb, ro + i * 3 + 1, none⟩ = some (.string ⟨nm.toArray⟩) := lnm
        clear IW
        by_cases hj5 : j < 5
        · have gj : (j : Int) < 5 := by omega
          obtain ⟨⟨bn, bk⟩, hb, hbn⟩ := ins_name hj5
          have hbn : POrd.inN[j]? = some bn := hbn
          obtain ⟨ib, io, rfl, -⟩ := (HIS.out.on J2.out).at hj5
          obtain ⟨c0, c1⟩ := bd_cell (HIS.out.on J2.out) hj5 hb
          have c0 : wr.cell? ⟨ib, io + j * 2, none⟩ = some (.string ⟨bn.toArray⟩) := c0
          have c1 : wr.cell? ⟨ib, io + j * 2 + 1, none⟩ = some (.int .i64 bk) := c1
          have hsc := World.block_lt_of_cell? wr _ c0
          obtain ⟨w9, hw9, SB, b9⟩ : ∃ w9, wr.alloc (.cells #[.string { data := #[] }, .int .i64 0] 50) = w9 ∧ Box w9 wr.heap.size [.string { data := #[] }, .int .i64 0] ∧ Below wr.heap.size wr w9 := ⟨_, rfl, Box.new _ _ [.string { data := #[] }, .int .i64 0], (Below.refl _ _).alloc (Nat.le_refl _) _⟩
          obtain ⟨w10, hw10, X10, ON10⟩ := st2x SB (.string ⟨bn.toArray⟩) (.int .i64 bk)
          have b10 : Below wr.heap.size wr w10 := ON10.below (Nat.le_refl _) b9
          obtain ⟨u0, u1⟩ := px2 X10
          have hs10 := X10.1
          obtain ⟨s0, s1⟩ := px2 SB
          obtain ⟨m0, m1⟩ := px2f SB
          have hs9 := SB.1
          have y0 := (b10.cell (World.block_lt_of_cell? wr _ x0)).trans x0
          have lnm10 := (b10.cell (World.block_lt_of_cell? wr _ lnm)).trans lnm
          have hsx10 := World.block_lt_of_cell? w10 _ y0; have hsl10 := World.block_lt_of_cell? w10 _ lnm10
          have B10 := Lib.hid (J2.out.trans (b10.mono J2.out.size))
          have HW10 := Lib.hid hw10; have HBN := Lib.hid hbn
          clear SB X10 ON10 b9 b10 hw10 hb hbn HIW
          by_cases e : bn = nm
          · have HD : Hid (POrd.dup (nmR RL) i = true) := Lib.hid (dup_in HNM.out (by have := HBN.out; rw [e] at this; exact List.mem_of_getElem? this))
            have ge : (bn == nm) = true := beq_iff_eq.2 e
            clear e
            go_upto_region 7 with fail
            rw [HW10.out]
            clear HW10 hw9 s0 s1 m0 m1 hs9 c0 c1 hsc x0 x1 hsx lnm
            go_quiet (fail)
            have HBQ := Lib.hid (B1.out.trans ((I22.out.trans ((B10.out.trans ((below_drewX w10 nq).mono B10.out.size)).mono I22.out.size)).mono B1.out.size))
            go_wp2_with fail
            exact FIN1.out i _ hin HD.out I1.out HBQ.out
          · have ge : (bn == nm) = false := beq_eq_false_iff_ne.2 e
            have NX : Hid (∀ j', j' < j + 1 → POrd.inN[j']? ≠ some nm) := Lib.hid (fun j' h1 h2 => by
              by_cases ej : j' = j
              · subst ej; rw [HBN.out] at h2; exact e (Option.some.inj h2)
              · exact J1.out j' (by omega) h2)
            clear e
            go_upto_region 7 with fail
            rw [HW10.out]
            clear HW10 hw9 s0 s1 m0 m1 hs9 c0 c1 hsc x0 x1 hsx lnm
            go_quiet (fail)
            have HBQ := Lib.hid (B10.out.trans ((below_drewX w10 nq).mono B10.out.size))
            go_wp2_with fail
            exact ⟨⟨j + 1, rfl, by omega, NX, HBQ⟩, by simp [intOf]; omega⟩
        · obtain rfl : j = 5 := by omega
          have HNI : Hid (nm ∉ POrd.inN) := Lib.hid (fun k => by
            obtain ⟨j', hj', e⟩ := List.getElem_of_mem k
            exact J1.out j' (by simpa [POrd.inN, POrd.inB] using hj') (by rw [List.getElem?_eq_getElem hj', e]))
          obtain ⟨wp, hwp⟩ : ∃ wp, wp = wr := ⟨_, rfl⟩
          subst hwp
          have gj : ¬ ((5 : Nat) : Int) < 5 := by omega
          clear J1 x0 x1 hsx lnm hj hj5
          go_wp2_with fail
          go_loopw [6] (fun x wx => ∃ k : Nat, x = .int .i64 k ∧ k ≤ i ∧ Hid (∀ k', k' < k → (nmR RL)[k']? ≠ some nm) ∧ Hid (Below w1.heap.size w1 wx)) (fun x _ => i - (intOf x).toNat)
          case atStart => exact ⟨0, rfl, Nat.zero_le _, (show Hid _ from fun j h => absurd h (Nat.not_lt_zero _)), HIW⟩
          case round =>
            obtain ⟨k, rfl, hk, K1, K2⟩ := hrel
            obtain ⟨x0, x1⟩ := px2 (HXB.out.on K2.out)
            have hsx := (HXB.out.on K2.out).1
            by_cases hki : k < i
            · have gk : (k : Int) < (i : Int) := by omega
              have hkn : k < rn := by omega
              have gkn : (k : Int) < (rn : Int) := by omega
              obtain ⟨⟨ka, kn, kr⟩, hxk⟩ : ∃ x, RL[k]? = some x := ⟨_, List.getElem?_eq_getElem (by rw [HRN.out]; exact hkn)⟩
              have hnk : (nmR RL)[k]? = some kn := by unfold nmR; rw [List.getElem?_map, hxk]; rfl
              obtain ⟨-, lnm, -⟩ := rl_cell (HR.out.on K2.out) hin HX.out
              have lnm : wr.cell? ⟨rb, ro + i * 3 + 1, none⟩ = some (.string ⟨nm.toArray⟩) := lnm
              obtain ⟨-, lkn, -⟩ := rl_cell (HR.out.on K2.out) hkn hxk
              have lkn : wr.cell? ⟨rb, ro + k * 3 + 1, none⟩ = some (.string ⟨kn.toArray⟩) := lkn
              have hsl := World.block_lt_of_cell? wr _ lnm
              have HNK := Lib.hid hnk
              clear hxk hnk
              by_cases e : kn = nm
              · have HD : Hid (POrd.dup (nmR RL) i = true) := Lib.hid (dup_old HNM.out hki (by rw [← e]; exact HNK.out))
                have ge : (kn == nm) = true := beq_iff_eq.2 e
                clear e
                go_upto_region 13 with fail
                go_quiet (fail)
                have HBQ := Lib.hid (B1.out.trans ((K2.out.trans ((below_drewX wr nq).mono K2.out.size)).mono B1.out.size))
                go_wp2_with fail
                exact FIN1.out i _ hin HD.out I1.out HBQ.out
              · have ge : (kn == nm) = false := beq_eq_false_iff_ne.2 e
                have NX : Hid (∀ k', k' < k + 1 → (nmR RL)[k']? ≠ some nm) := Lib.hid (fun k' h1 h2 => by
                  by_cases ej : k' = k
                  · subst ej; rw [HNK.out] at h2; exact e (Option.some.inj h2)
                  · exact K1.out k' (by omega) h2)
                clear e
                go_upto_region 13 with fail
                go_quiet (fail)
                have HBQ := Lib.hid (K2.out.trans ((below_drewX wr nq).mono K2.out.size))
                go_wp2_with fail
                exact ⟨⟨k + 1, rfl, by omega, NX, HBQ⟩, by simp [intOf]; omega⟩
            · obtain rfl : k = i := by omega
              have NX : Hid (∀ j, j < k + 1 → POrd.dup (nmR RL) j = false) := Lib.hid (fun j h => by
                by_cases ej : j = k
                · subst ej; exact dup_false HNM.out HNI.out K1.out
                · exact I1.out j (by omega))
              have gk : ¬ (k : Int) < (k : Int) := by omega
              clear K1 x0 x1 hsx hki
              go_wp2_with fail
              exact ⟨⟨k + 1, rfl, by omega, NX, K2⟩, by simp [intOf]; omega⟩
    · obtain rfl : i = rn := by omega
      have gi : ¬ (i : Int) < (i : Int) := by omega
      clear hin
      go_wp2_with fail
      exact FIN2.out _ I1.out (B1.out.trans (I2.out.mono B1.out.size))
end Go.Proofs.YtdkcdgjpcojdfaaGreatDoor

set_option linter.unusedVariables false
namespace POrd
def from' (i n : Nat) (P : Nat → Bool) : Option Nat := least n (fun j => decide (i ≤ j) && P j)
theorem from_end (n : Nat) (P : Nat → Bool) : from' n n P = none := least_none (fun j hj => by rw [decide_eq_false (show ¬ n ≤ j by omega), Bool.false_and])
theorem from_zero (n : Nat) (P : Nat → Bool) : from' 0 n P = least n P := by unfold from'; congr 1
theorem from_hit {i n : Nat} {P : Nat → Bool} (hi : i < n) (h : P i = true) : from' i n P = some i := least_some hi (by simp [h]) (fun j hj => by simp; omega)
theorem from_miss {i n : Nat} {P : Nat → Bool} (hi : i < n) (h : P i = false) : from' i n P = from' (i + 1) n P := by
  unfold from'
  congr 1
  funext j
  by_cases e : j = i
  · subst e; simp [h]
  · have : decide (i ≤ j) = decide (i + 1 ≤ j) := by
      by_cases k : i ≤ j
      · rw [decide_eq_true k, decide_eq_true (by omega)]
      · rw [decide_eq_false k, decide_eq_false (by omega)]
    rw [this]
def sortR : Option (List Nat) × Nat → List Nat × Nat × Nat
  | (some l, _) => (l, 0, 0)
  | (none, i) => ([], i, 8)
theorem ans_none {names : List (List UInt8)} {H : Nat → Nat → Bool} (h : twice names = none) : ans names H = sortR (sort names.length H) := by
  unfold ans
  rw [h]
  cases sort names.length H with
  | mk a b => cases a <;> rfl
theorem ans_some {names : List (List UInt8)} {H : Nat → Nat → Bool} {i : Nat} (h : twice names = some i) : ans names H = ([], i, 6) := by
  unfold ans
  rw [h]
theorem first_least {n : Nat} {l : List Nat} (h : Good0 n l) (hl : l.length < n) : least n (fun i => !l.contains i) = some (first n l) := by
  unfold first
  cases hf : least n (fun i => !l.contains i) with
  | some i => rfl
  | none =>
    have h2 := least_no hf
    have := sub_len (List.range n) l List.nodup_range (fun i hi => by have := h2 i (List.mem_range.1 hi); simpa using this)
    simp at this; omega
end POrd
namespace Go.Proofs.YtdkcdgjpcojdfaaGreatDoor
open Go.RowKit
open PCheck (Xp Bd made)
open PTree (Tr Rl Ex Wf X0)

def OrdAns (F : List Nat × Nat × Nat) (w : World) (e : Ending) (w' : World) : Prop := ∃ A c, e = .returned (.tuple #[.slice A F.1.length c, .int .i64 (F.2.1 : Nat), .int .i64 (F.2.2 : Nat)]) ∧ SlX intR w' A F.1.length (plI F.1) ∧ ((A = none → c = 0) ∧ F.1.length ≤ c) ∧ Below w.heap.size w w'
def lenOf (v : Value) : Nat := match v with
  | .slice _ n _ => n
  | _ => 0
theorem plI_snoc (l : List Nat) (i : Nat) : plI (l ++ [i]) = plI l ++ [((i : Nat) : Int)] := by unfold plI; rw [List.map_append]; rfl
set_option maxHeartbeats 12800000 in
set_option maxRecDepth 100000 in
theorem r11sort_any {w : World} {n c rn rc : Nat} {A RA : Option Addr} {rs : List Rl} (hR : SlX rlR w RA rn (rwX rs)) (hE : SlX xpR w A n (xpX rs)) (hW : ∀ r ∈ rs, Wf X0 r.tree) (hn : n ≤ 1000) (hrn : rn ≤ 1000) :
    Calls Tryz.prog 12 #[.agg #[.slice RA rn rc, .slice A n c]] w (OrdAns (POrd.ans (nmR (rwX rs)) (POrd.hangs rs)) w) := by
  obtain ⟨Q, hQ⟩ : ∃ Q, OrdAns (POrd.ans (nmR (rwX rs)) (POrd.hangs rs)) w = Q := ⟨_, rfl⟩
  rw [hQ]
  have hRn : (rwX rs).length = rn := hR.1
  have hnl : (nmR (rwX rs)).length = rn := by rw [nmR_len]; exact hRn
  obtain ⟨w1, hw1, XB, b1⟩ : ∃ w1, w.alloc (.cells #[.slice RA rn rc, .slice A n c] 26) = w1 ∧ Box w1 w.heap.size [.slice RA rn rc, .slice A n c] ∧ Below w.heap.size w w1 := ⟨_, rfl, Box.new _ _ [.slice RA rn rc, .slice A n c], (Below.refl _ _).alloc (Nat.le_refl _) _⟩
  have ct := r11twice_any (rc := rc) (c := c) (A := A) (n := n) (hR.on b1) hrn
  have HXB := Lib.hid XB; have B1 := Lib.hid b1; have HW1 := Lib.hid hw1; have HR := Lib.hid (hR.on b1); have HE := Lib.hid (hE.on b1); have HWf := Lib.hid hW
  obtain ⟨x0, x1⟩ := px2 XB
  have hsx := XB.1
  cases htw : POrd.twice (nmR (rwX rs)) with
  | some i =>
    rw [htw] at ct
    have CT := Lib.hid ct
    have FIN : Hid (∀ w' : World, Below w.heap.size w w' → Q (.returned (.tuple #[.slice none 0 0, .int .i64 (i : Nat), .int .i64 6])) w') := Lib.hid (fun w' a => by
      rw [← hQ]
      rw [POrd.ans_some htw]
      exact ⟨none, 0, rfl, slr_nil _ _ _, ⟨fun _ => rfl, Nat.le_refl _⟩, a⟩)
    have gi : (0 : Int) ≤ (i : Int) := by omega
    clear hQ hR hE hW XB b1 hw1 ct htw
    go_enter Tryz.func12, Tryz.ntmps12
    go_upto_region 1 with fail
    rw [HW1.out]
    go_wp2_with (go_at_call 34; refine CT.out.mono ?_)
    intro e2 w2 h2
    obtain ⟨rfl, b2⟩ := h2
    have B2 := Lib.hid (below_step B1.out b2)
    simp only [plO]
    clear b2 CT
    go_wp2_with fail
    exact FIN.out _ B2.out
  | none =>
    rw [htw] at ct
    have CT := Lib.hid ct
    obtain ⟨S, hS⟩ : ∃ S, POrd.sort rn (POrd.hangs rs) = S := ⟨_, rfl⟩
    have hans : POrd.ans (nmR (rwX rs)) (POrd.hangs rs) = POrd.sortR S := by rw [POrd.ans_none htw, hnl, hS]
    have FIN1 : Hid (∀ (l : List Nat) (X : Option Addr) (cx : Nat) (w' : World), S = (some l, 0) → SlX intR w' X l.length (plI l) → ((X = none → cx = 0) ∧ l.length ≤ cx) → Below w.heap.size w w' → Q (.returned (.tuple #[.slice X l.length cx, .int .i64 0, .int .i64 0])) w') := Lib.hid (fun l X cx w' hs hl hx a => by
      rw [← hQ, hans, hs]
      exact ⟨X, cx, rfl, hl, hx, a⟩)
    have FIN2 : Hid (∀ (i : Nat) (w' : World), S = (none, i) → Below w.heap.size w w' → Q (.returned (.tuple #[.slice none 0 0, .int .i64 (i : Nat), .int .i64 8])) w') := Lib.hid (fun i w' hs a => by
      rw [← hQ, hans, hs]
      exact ⟨none, 0, rfl, slr_nil _ _ _, ⟨fun _ => rfl, Nat.le_refl _⟩, a⟩)
    have HS : Hid (POrd.sortF rn (POrd.hangs rs) rn [] = S) := Lib.hid hS
    clear hQ hR hE hW XB b1 hw1 ct htw hans hnl hS
    go_enter Tryz.func12, Tryz.ntmps12
    go_upto_region 1 with fail
    rw [HW1.out]
    go_wp2_with (go_at_call 34; refine CT.out.mono ?_)
    intro e2 w2 h2
    obtain ⟨rfl, b2⟩ := h2
    have B2 := Lib.hid (below_step B1.out b2)
    have HXB := Lib.hid (HXB.out.on b2); have HR := Lib.hid (HR.out.on b2); have HE := Lib.hid (HE.out.on b2)
    simp only [plO]
    clear b2 CT B1 HW1 x0 x1 hsx
    go_wp2_with fail
    go_loopw [6] (fun v wx => ∃ l : List Nat, lenOf v = l.length ∧ Hid (POrd.Good0 rn l) ∧ Hid (wx.ownsRow w2.heap.size 3 intR.k v l.length (intR.cells (plI l))) ∧ Hid (POrd.sortF rn (POrd.hangs rs) (rn - l.length) l = S) ∧ Hid (Below w2.heap.size w2 wx)) (fun v _ => rn - lenOf v)
    case atStart => exact ⟨[], rfl, Lib.hid ⟨List.nodup_nil, fun i h => by cases h⟩, Lib.hid (World.ownsRow_nil _ _ _ _), HS, Lib.hid (Below.refl _ _)⟩
    case round =>
      obtain ⟨l, hlv, I1, I2, I3, I4⟩ := hrel
      obtain ⟨LA, lc, rfl, hL0, hlc, sl⟩ := slr_of_own I2.out (plI_len l)
      have HL0 := Lib.hid (And.intro hL0 hlc)
      have HSL := Lib.hid sl
      obtain ⟨ln, hln⟩ : ∃ ln, l.length = ln := ⟨_, rfl⟩
      rw [hln] at HSL I2
      simp only [hln]
      have hlr : ln ≤ rn := by rw [← hln]; exact POrd.good0_len I1.out
      obtain ⟨wo, hwo⟩ : ∃ wo, wo = wr := ⟨_, rfl⟩
      subst hwo
      obtain ⟨x0, x1⟩ := px2 (HXB.out.on I4.out)
      have hsx := (HXB.out.on I4.out).1
      have HLN := Lib.hid hln
      clear hL0 hlc sl hlv hln
      by_cases hlt : ln < rn
      · have gl : (ln : Int) < (rn : Int) := by omega
        have HO : Hid (Below wo.heap.size wo wo) := Lib.hid (Below.refl _ _)
        go_wp2_with fail
        clear x0 x1 hsx
        go_loopw [7, 8, 9] (fun s7 s8 s9 wx => ∃ i : Nat, i ≤ rn ∧ s9 = .int .i64 ((i : Int) - 1) ∧ s7 = .int .i64 (plO (POrd.from' i rn (POrd.free rn (POrd.hangs rs) l))) ∧ s8 = .int .i64 (plO (POrd.from' i rn (fun j => !l.contains j))) ∧ Hid (Below wo.heap.size wo wx)) (fun _ _ s9 _ => (intOf s9 + 1).toNat)
        case atStart => exact ⟨rn, Nat.le_refl _, rfl, by rw [POrd.from_end]; rfl, by rw [POrd.from_end]; rfl, HO⟩
        case round =>
          obtain ⟨i, hi, rfl, rfl, rfl, J1⟩ := hrel
          obtain ⟨x0, x1⟩ := px2 ((HXB.out.on I4.out).on J1.out)
          have hsx := ((HXB.out.on I4.out).on J1.out).1
          cases i with
          | zero =>
            obtain ⟨nx, hnx⟩ : ∃ nx, POrd.next rn (POrd.hangs rs) l = nx := ⟨_, rfl⟩
            have e7 : POrd.from' 0 rn (POrd.free rn (POrd.hangs rs) l) = nx := by rw [POrd.from_zero]; exact hnx
            have e8 : POrd.from' 0 rn (fun j => !l.contains j) = some (POrd.first rn l) := by rw [POrd.from_zero]; exact POrd.first_least I1.out (by rw [HLN.out]; exact hlt)
            rw [e7, e8]
            have HNX := Lib.hid hnx
            have BW := Lib.hid (B2.out.trans ((I4.out.trans (J1.out.mono I4.out.size)).mono B2.out.size))
            clear e7 e8 hnx
            cases nx with
            | none =>
              have HSS : Hid (S = (none, POrd.first rn l)) := Lib.hid (by
                rw [← I3.out, show rn - l.length = (rn - l.length - 1) + 1 by rw [HLN.out]; omega, POrd.sortF_stop (by rw [HLN.out]; exact hlt) HNX.out])
              simp only [plO]
              clear HNX
              go_wp2_with fail
              exact FIN2.out _ _ HSS.out BW.out
            | some ni =>
              have HSS : Hid (POrd.sortF rn (POrd.hangs rs) (rn - (l ++ [ni]).length) (l ++ [ni]) = S) := Lib.hid (by
                rw [← I3.out, show rn - l.length = (rn - (l ++ [ni]).length) + 1 by rw [List.length_append, HLN.out]; simp; omega, POrd.sortF_more (by rw [HLN.out]; exact hlt) HNX.out])
              have HG := Lib.hid (POrd.good0_snoc I1.out HNX.out)
              have HO2 := Lib.hid (own_kept I2.out J1.out)
              have B3 := Lib.hid (I4.out.trans (J1.out.mono I4.out.size))
              have hsz : w2.heap.size ≤ wr.heap.size := B3.out.size
              have gni : ¬ (ni : Int) < 0 := by omega
              simp only [plO]
              clear HNX I3 I2 x0 x1 hsx
              go_wp2_with (at_builtin; refine append_own1 doc_intTy rfl _ _ rfl w2.heap.size _ ln (plI l) ((ni : Nat) : Int) (by rfl) HO2.out (by rfl) (by omega) hsz ?_)
              intro v5 w5 ho5 hb5 hk5
              rw [← plI_snoc] at ho5
              obtain ⟨c5, q5, rfl, -⟩ : ∃ c5 q5, v5 = .slice c5 (ln + 1) q5 ∧ True := by
                obtain ⟨A5, q5, e5, -, -, -⟩ := slr_of_own ho5 (by rw [plI_len, List.length_append, HLN.out]; rfl)
                exact ⟨A5, q5, e5, trivial⟩
              have O5 := Lib.hid ho5
              have B5 := Lib.hid (B3.out.trans hb5)
              clear ho5 hb5 hk5 HO2 B3 hsz
              go_wp2_with fail
              have hl1 : (l ++ [ni]).length = ln + 1 := by rw [List.length_append, HLN.out]; rfl
              exact ⟨⟨l ++ [ni], hl1.symm, HG, Lib.hid (by rw [hl1]; exact O5.out), HSS, B5⟩, by simp [lenOf]; omega⟩
          | succ i =>
            have hin : i < rn := by omega
            have ei : (((i + 1 : Nat) : Int) - 1) = (i : Int) := by omega
            have gi : (0 : Int) ≤ (i : Int) := by omega
            have ef : POrd.from' i rn (POrd.free rn (POrd.hangs rs) l) = if POrd.free rn (POrd.hangs rs) l i = true then some i else POrd.from' (i + 1) rn (POrd.free rn (POrd.hangs rs) l) := by
              by_cases h : POrd.free rn (POrd.hangs rs) l i = true
              · rw [if_pos h, POrd.from_hit hin h]
              · rw [if_neg h, POrd.from_miss hin (by simpa using h)]
            have en : POrd.from' i rn (fun j => !l.contains j) = if l.contains i = false then some i else POrd.from' (i + 1) rn (fun j => !l.contains j) := by
              by_cases h : l.contains i = false
              · rw [if_pos h, POrd.from_hit (P := fun j => !l.contains j) hin (by simp only [h]; rfl)]
              · rw [if_neg h, POrd.from_miss (P := fun j => !l.contains j) hin (by simpa using h)]
            obtain ⟨fb, hfb⟩ : ∃ fb, POrd.free rn (POrd.hangs rs) l i = fb := ⟨_, rfl⟩
            obtain ⟨ib, hib⟩ : ∃ ib, l.contains i = ib := ⟨_, rfl⟩
            have cf := r11free_any (rc := rc) (c := c) (lc := lc) ((HR.out.on I4.out).on J1.out) ((HE.out.on I4.out).on J1.out) (HSL.out.on J1.out) HWf.out hn hrn (by omega) hin
            rw [hfb] at cf ef
            rw [hib] at en
            have CF := Lib.hid cf
            have CI := Lib.hid (fun (wz : World) (hz : Below wo.heap.size wo wz) => r11in_as (c := lc) (HSL.out.on hz) (by omega) hib)
            have HEF := Lib.hid ef; have HEN2 := Lib.hid en
            obtain ⟨P7, hP7⟩ : ∃ P7, plO (POrd.from' (i + 1) rn (POrd.free rn (POrd.hangs rs) l)) = P7 := ⟨_, rfl⟩
            obtain ⟨P8, hP8⟩ : ∃ P8, plO (POrd.from' (i + 1) rn (fun j => !l.contains j)) = P8 := ⟨_, rfl⟩
            rw [hP7, hP8, ei]
            have HP7 := Lib.hid hP7; have HP8 := Lib.hid hP8
            clear cf ef en hfb hib hP7 hP8 ei
            cases fb <;> cases ib
            all_goals
              go_wp2_with (go_at_call 35; refine CF.out.mono ?_)
              intro e3 w3 h3
              obtain ⟨rfl, b3⟩ := h3
              have B3 := Lib.hid (J1.out.trans (b3.mono J1.out.size))
              have CI3 := Lib.hid (CI.out w3 B3.out)
              clear b3 CF CI
              go_wp2_with (go_at_call 36; refine CI3.out.mono ?_; rintro _ _ ⟨rfl, rfl⟩)
              exact ⟨⟨i, by omega, rfl, by rw [HEF.out]; first | rfl | (rw [if_neg (by decide), HP7.out]), by rw [HEN2.out]; first | rfl | (rw [if_neg (by decide), HP8.out]), B3⟩, by simp only [intOf]; omega⟩
      · obtain rfl : ln = rn := by omega
        have HSS : Hid (S = (some l, 0)) := Lib.hid (by rw [← I3.out, POrd.sortF_done (by rw [HLN.out]; omega)])
        have gl : ¬ (ln : Int) < (ln : Int) := by omega
        clear hlt
        go_wp2_with fail
        have := FIN1.out l LA lc _ HSS.out (by rw [HLN.out]; exact HSL.out) (by rw [HLN.out]; have := HL0.out; rw [HLN.out] at this; exact this) (B2.out.trans (I4.out.mono B2.out.size))
        rw [HLN.out] at this
        exact this
end Go.Proofs.YtdkcdgjpcojdfaaGreatDoor
