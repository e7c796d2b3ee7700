/-
  What the landed order answers: the places of rules by their names, or the first name that is there ahead.
  What the landed order answers: the rules that each one hangs on, by bits.
-/
import Derived.Test.YtdkcdgjpcojdfaaGreatDoorOL
import Derived.Test.YtdkcdgjpcojdfaaGreatDoorCM

set_option linter.unusedVariables false
namespace Go.Proofs.YtdkcdgjpcojdfaaGreatDoor
open Go.RowKit
open PCheck (Bd)

def inF (j : Nat) : List UInt8 → Option Int := fun s => if s ∈ POrd.inN.take j then some (-1) else none
def nmF (names : List (List UInt8)) (k : Nat) : List UInt8 → Option Int := fun s => if s ∈ POrd.inN then some (-1) else match POrd.least k (fun j => names[j]? == some s) with
  | some j => some ((j : Nat) : Int)
  | none => none
theorem inF_step {j : Nat} {b : List UInt8} (h : POrd.inN[j]? = some b) : putF (inF j) b (-1) = inF (j + 1) := by
  funext s
  unfold putF inF
  rw [List.take_add_one, h]
  by_cases e : s = b
  · subst e; rw [if_pos rfl, if_pos (by simp)]
  · rw [if_neg e]
    by_cases k : s ∈ POrd.inN.take j
    · rw [if_pos k, if_pos (by simp [k])]
    · rw [if_neg k, if_neg (by simp [k, e])]
theorem inF_all (names : List (List UInt8)) : inF 5 = nmF names 0 := by
  funext s
  unfold inF nmF
  rw [show POrd.inN.take 5 = POrd.inN from rfl]
  rfl
theorem nmF_none {names : List (List UInt8)} {k : Nat} {s : List UInt8} (hs : names[k]? = some s) (h : POrd.dup names k = false) : nmF names k s = none ∧ s ∉ POrd.inN := by
  unfold POrd.dup at h
  rw [List.contains_eq_mem, decide_eq_false_iff_not, List.mem_append, show names.getD k [] = s by rw [List.getD, hs]; rfl] at h
  have h1 : s ∉ POrd.inN := fun c => h (.inl c)
  refine ⟨?_, h1⟩
  unfold nmF
  rw [if_neg h1, POrd.least_none (fun j hj => ?_)]
  rw [beq_eq_false_iff_ne]
  intro c
  refine h (.inr (List.mem_of_getElem? (i := j) ?_))
  rw [List.getElem?_take, if_pos hj]; exact c
theorem nmF_some {names : List (List UInt8)} {k : Nat} {s : List UInt8} (hs : names[k]? = some s) (h : POrd.dup names k = true) : ∃ z, nmF names k s = some z := by
  unfold POrd.dup at h
  rw [List.contains_eq_mem, decide_eq_true_eq, List.mem_append, show names.getD k [] = s by rw [List.getD, hs]; rfl] at h
  unfold nmF
  by_cases h1 : s ∈ POrd.inN
  · exact ⟨-1, if_pos h1⟩
  · rw [if_neg h1]
    rcases h with h | h
    · exact absurd h h1
    · obtain ⟨j, hj, e⟩ := List.getElem_of_mem h
      have hjk : j < k := by rw [List.length_take] at hj; omega
      cases hl : POrd.least k (fun j => names[j]? == some s) with
      | some i => exact ⟨_, rfl⟩
      | none =>
        have := POrd.least_no hl j hjk
        rw [beq_eq_false_iff_ne] at this
        refine absurd ?_ this
        have h2 : (names.take k)[j]? = some s := by rw [List.getElem?_eq_getElem hj, e]
        rwa [List.getElem?_take, if_pos hjk] at h2
theorem nmF_step {names : List (List UInt8)} {k : Nat} {s : List UInt8} (hs : names[k]? = some s) (h : POrd.dup names k = false) : putF (nmF names k) s ((k : Nat) : Int) = nmF names (k + 1) := by
  obtain ⟨h1, h2⟩ := nmF_none hs h
  funext x
  unfold putF
  by_cases e : x = s
  · subst e
    rw [if_pos rfl]
    unfold nmF at h1 ⊢
    rw [if_neg h2] at h1 ⊢
    have hn : POrd.least k (fun j => names[j]? == some x) = none := by
      cases hl : POrd.least k (fun j => names[j]? == some x) with
      | none => rfl
      | some i => rw [hl] at h1; cases h1
    rw [POrd.least_some (i := k) (by omega) (by rw [hs]; exact beq_self_eq_true _) (fun j hj => POrd.least_no hn j hj)]
  · rw [if_neg e]
    unfold nmF
    by_cases h3 : x ∈ POrd.inN
    · rw [if_pos h3, if_pos h3]
    · rw [if_neg h3, if_neg h3]
      have hk : (names[k]? == some x) = false := by rw [hs, beq_eq_false_iff_ne]; intro c; exact e (Option.some.inj c).symm
      cases hl : POrd.least k (fun j => names[j]? == some x) with
      | some i =>
        obtain ⟨g1, g2, g3⟩ := POrd.least_is hl
        rw [POrd.least_some (i := i) (by omega) g2 g3]
      | none =>
        rw [POrd.least_none (fun j hj => by
          by_cases ej : j = k
          · subst ej; exact hk
          · exact POrd.least_no hl j (by omega))]
theorem slx_grown {α : Type} {R : Rec α} {w w' : World} {A : Option Addr} {n H : Nat} {l : List α} (h : SlX R w A n l) (hg : w.grownBy w' (some H)) (hA : ∀ a, A = some a → a.block ≠ H) : SlX R w' A n l := by
  obtain ⟨h1, h2⟩ := h
  refine ⟨h1, ?_⟩
  rcases h2 with h2 | ⟨b, off, rfl, h4⟩
  · exact .inl h2
  · have hb : b ≠ H := hA _ rfl
    exact .inr ⟨b, off, rfl, fun i hi j v e => hg.cell (h4 i hi j v e) (by simp only [ne_eq, Option.some.injEq]; omega)⟩
def NamedAns (names : List (List UInt8)) (w : World) (e : Ending) (w' : World) : Prop := Below w.heap.size w w' ∧ match POrd.twice names with
  | some i => e = .returned (.tuple #[.map none, .int .i64 (i : Nat), .int .i64 6])
  | none => ∃ b n, e = .returned (.tuple #[.map (some b), .int .i64 0, .int .i64 0]) ∧ MapOf w' b n (nmF names names.length)
set_option maxHeartbeats 6400000 in
set_option maxRecDepth 100000 in
theorem kbyName_any {w : World} {rn rc : Nat} {RA : Option Addr} {RL : List Rw} (hR : SlX rlR w RA rn RL) (hrn : rn ≤ 1000) (hs : ∀ s ∈ nmR RL, s.length ≤ maxLen) :
    Calls Tryz.prog 31 #[.slice RA rn rc] w (NamedAns (nmR RL) w) := by
  obtain ⟨Q, hQ⟩ : ∃ Q, NamedAns (nmR RL) w = Q := ⟨_, rfl⟩
  rw [hQ]
  have hRn : RL.length = rn := hR.1
  have hnl : (nmR RL).length = rn := by rw [nmR_len]; exact hRn
  have FIN1 : Hid (∀ (i : Nat) (w' : World), i < rn → POrd.dup (nmR RL) i = true → (∀ j, j < i → POrd.dup (nmR RL) j = false) → Below w.heap.size w w' → Q (.returned (.tuple #[.map none, .int .i64 (i : Nat), .int .i64 6])) w') := Lib.hid (fun i w' h1 h2 h3 a => by
    rw [← hQ]
    refine ⟨a, ?_⟩
    unfold POrd.twice
    rw [POrd.least_some (by rw [hnl]; exact h1) h2 h3])
  have FIN2 : Hid (∀ (b n : Nat) (w' : World), (∀ j, j < rn → POrd.dup (nmR RL) j = false) → MapOf w' b n (nmF (nmR RL) rn) → Below w.heap.size w w' → Q (.returned (.tuple #[.map (some b), .int .i64 0, .int .i64 0])) w') := Lib.hid (fun b n w' h3 hm a => by
    rw [← hQ]
    refine ⟨a, ?_⟩
    unfold POrd.twice
    rw [POrd.least_none (by rw [hnl]; exact h3), hnl]
    exact ⟨b, n, rfl, hm⟩)
  obtain ⟨H, hH⟩ : ∃ H, w.heap.size = H := ⟨_, rfl⟩
  have hmm := @run_makeMap Tryz.prog
  obtain ⟨w1, hw1, M1, b1, hs1⟩ : ∃ w1, w.alloc (.map #[] 0) = w1 ∧ MapOf w1 H 0 (fun _ => none) ∧ Below H w w1 ∧ H < w1.heap.size := ⟨_, rfl, by rw [← hH]; exact mapOf_new w, (Below.refl _ _).alloc (Nat.le_of_eq hH.symm) _, by simp [hH]⟩
  have HR := Lib.hid hR; have HRN := Lib.hid hRn; have HNL := Lib.hid hnl; have HS := Lib.hid hs; have HM1 := Lib.hid M1; have B1 := Lib.hid b1; have HS1 := Lib.hid hs1; have HH := Lib.hid hH; have HW1 := Lib.hid hw1
  have CI := Lib.hid (kinputs_any w1)
  clear hQ hR hRn hnl hs M1 b1 hs1 hw1 hH
  go_enter Tryz.func31, Tryz.ntmps31
  go_upto_region 2 with fail
  rw [HW1.out, HH.out]
  clear hmm
  go_wp2_with (go_at_call 16; refine CI.out.mono ?_)
  intro e2 w2 h2
  obtain ⟨IA, ic, rfl, is, -, -, ia, b2⟩ := h2
  have HIS := Lib.hid is
  have HIA : Hid (∀ a, IA = some a → a.block ≠ H) := Lib.hid (fun a e => by have := ia a e; have := HS1.out; omega)
  have B2 := Lib.hid (B1.out.trans (b2.mono (Nat.le_of_lt HS1.out)))
  have S2 : Hid (H < w2.heap.size) := Lib.hid (Nat.lt_of_lt_of_le HS1.out b2.size)
  have M2 : Hid (MapOf w2 H 0 (inF 0)) := Lib.hid (HM1.out.on b2)
  clear is ia b2 CI B1 HS1 HM1
  go_wp2_with fail
  go_loopw [15] (fun x wx => ∃ j : Nat, x = .int .i64 j ∧ j ≤ 5 ∧ Hid (MapOf wx H j (inF j)) ∧ Hid (SlX bdR wx IA 5 POrd.inB) ∧ Hid (Below H w wx) ∧ Hid (H < wx.heap.size)) (fun x _ => 5 - (intOf x).toNat)
  case atStart => exact ⟨0, rfl, Nat.zero_le _, M2, HIS, B2, S2⟩
  case round =>
    clear M2 HIS B2 S2
    obtain ⟨j, rfl, hj, I1, I2, I3, I4⟩ := hrel
    by_cases hj5 : j < 5
    · have gj : (j : Int) < 5 := by omega
      obtain ⟨⟨bn, bk⟩, hb, hbn⟩ := ins_name hj5
      have hbn : POrd.inN[j]? = some bn := hbn
      obtain ⟨ib, io, rfl, -⟩ := I2.out.at hj5
      obtain ⟨c0, c1⟩ := bd_cell I2.out hj5 hb
      have c0 : wr.cell? ⟨ib, io + j * 2, none⟩ = some (.string ⟨bn.toArray⟩) := c0
      have c1 : wr.cell? ⟨ib, io + j * 2 + 1, none⟩ = some (.int .i64 bk) := c1
      have hsc := World.block_lt_of_cell? wr _ c0
      have hbl : bn.length ≤ 5 := by
        have k : ∀ s ∈ POrd.inN, s.length ≤ 5 := by decide
        exact k bn (List.mem_of_getElem? hbn)
      obtain ⟨w9, hw9, SB, b9⟩ : ∃ w9, wr.alloc (.cells #[.string { data := #[] }, .int .i64 0] 49) = w9 ∧ Box w9 wr.heap.size [.string { data := #[] }, .int .i64 0] ∧ Below wr.heap.size wr w9 := ⟨_, rfl, Box.new _ _ [.string { data := #[] }, .int .i64 0], (Below.refl _ _).alloc (Nat.le_refl _) _⟩
      obtain ⟨w10, hw10, X10, ON10⟩ := st2x SB (.string ⟨bn.toArray⟩) (.int .i64 bk)
      have b10 : Below wr.heap.size wr w10 := ON10.below (Nat.le_refl _) b9
      obtain ⟨u0, u1⟩ := px2 X10
      have hs10 := X10.1
      obtain ⟨s0, s1⟩ := px2 SB
      obtain ⟨m0, m1⟩ := px2f SB
      have hs9 := SB.1
      obtain ⟨w11, hmu, M11, g11⟩ := mapOf_put (I1.out.on b10) (by unfold maxLen; omega) ⟨bn.toArray⟩ (by simp only [ByteArray.size, List.size_toArray]; unfold maxLen; omega) (-1) (by decide)
      have S10 : H < w10.heap.size := Nat.lt_of_lt_of_le I4.out b10.size
      have B11 : Hid (Below H w w11) := Lib.hid ((I3.out.trans (b10.mono (Nat.le_of_lt I4.out))).grown g11 (Nat.le_of_lt S10) (fun _ e => by cases e; exact Nat.le_refl _))
      have S11 : Hid (H < w11.heap.size) := Lib.hid (Nat.lt_of_lt_of_le S10 g11.size)
      have M11h : Hid (MapOf w11 H (j + 1) (inF (j + 1))) := Lib.hid (by rw [← inF_step hbn]; exact M11)
      have IS11 : Hid (SlX bdR w11 (some ⟨ib, io, none⟩) 5 POrd.inB) := Lib.hid (slx_grown (I2.out.on b10) g11 HIA.out)
      have HW10 := Lib.hid hw10
      clear SB X10 ON10 b9 b10 hw10 hb hbn M11 g11 S10 hbl I1 I2 I3 I4
      go_upto_region 5 with fail
      rw [HW10.out]
      clear HW10 hw9 s0 s1 m0 m1 hs9 c0 c1 hsc
      go_wp2_with fail
      exact ⟨⟨j + 1, rfl, by omega, M11h, IS11, B11, S11⟩, by simp [intOf]; omega⟩
    · obtain rfl : j = 5 := by omega
      have M5 : Hid (MapOf wr H 5 (nmF (nmR RL) 0)) := Lib.hid (by rw [← inF_all]; exact I1.out)
      have gj : ¬ ((5 : Nat) : Int) < 5 := by omega
      clear I1 I2 hj hj5 HIA
      go_wp2_with fail
      go_loopw [25] (fun x wx => ∃ k : Nat, x = .int .i64 k ∧ k ≤ rn ∧ Hid (MapOf wx H (5 + k) (nmF (nmR RL) k)) ∧ Hid (∀ j, j < k → POrd.dup (nmR RL) j = false) ∧ Hid (Below H w wx) ∧ Hid (H < wx.heap.size)) (fun x _ => rn - (intOf x).toNat)
      case atStart => exact ⟨0, rfl, Nat.zero_le _, M5, (show Hid _ from fun j h => absurd h (Nat.not_lt_zero _)), I3, I4⟩
      case round =>
        clear M5 I3 I4
        obtain ⟨k, rfl, hk, I1, I2, I3, I4⟩ := hrel
        by_cases hkn : k < rn
        · have gk : (k : Int) < (rn : Int) := by omega
          obtain ⟨⟨ka, kn, kr⟩, hxk⟩ : ∃ x, RL[k]? = some x := ⟨_, List.getElem?_eq_getElem (by rw [HRN.out]; exact hkn)⟩
          have hnk : (nmR RL)[k]? = some kn := by unfold nmR; rw [List.getElem?_map, hxk]; rfl
          have RW := HR.out.on (by rw [HH.out]; exact I3.out)
          obtain ⟨rb, ro, rfl, -⟩ := RW.at hkn
          obtain ⟨c0, c1, c2⟩ := rl_cell RW hkn hxk
          have c0 : wr.cell? ⟨rb, ro + k * 3, none⟩ = some (.string ⟨ka.toArray⟩) := c0
          have c1 : wr.cell? ⟨rb, ro + k * 3 + 1, none⟩ = some (.string ⟨kn.toArray⟩) := c1
          have c2 : wr.cell? ⟨rb, ro + k * 3 + 2, none⟩ = some (.int .i64 kr) := c2
          have hsc := World.block_lt_of_cell? wr _ c0
          have hkl := HS.out kn (List.mem_of_getElem? hnk)
          obtain ⟨w9, hw9, SB, b9⟩ : ∃ w9, wr.alloc (.cells #[.string { data := #[] }, .string { data := #[] }, .int .i64 0] 60) = w9 ∧ Box w9 wr.heap.size [.string { data := #[] }, .string { data := #[] }, .int .i64 0] ∧ Below wr.heap.size wr w9 := ⟨_, rfl, Box.new _ _ [.string { data := #[] }, .string { data := #[] }, .int .i64 0], (Below.refl _ _).alloc (Nat.le_refl _) _⟩
          obtain ⟨w10, hw10, X10, ON10⟩ := st3x SB (.string ⟨ka.toArray⟩) (.string ⟨kn.toArray⟩) (.int .i64 kr)
          have b10 : Below wr.heap.size wr w10 := ON10.below (Nat.le_refl _) b9
          obtain ⟨u0, u1, u2⟩ := bx3 X10
          have hs10 := X10.1
          obtain ⟨s0, s1, s2⟩ := bx3 SB
          obtain ⟨m0, m1, m2⟩ := bx3f SB
          have hs9 := SB.1
          have M10 := I1.out.on b10
          have HW10 := Lib.hid hw10
          have B10 := Lib.hid (I3.out.trans (b10.mono (Nat.le_of_lt I4.out)))
          have S10 : Hid (H < w10.heap.size) := Lib.hid (Nat.lt_of_lt_of_le I4.out b10.size)
          obtain ⟨db, hdb⟩ : ∃ db, POrd.dup (nmR RL) k = db := ⟨_, rfl⟩
          have HDB := Lib.hid hdb
          clear SB X10 ON10 b9 b10 hw10 hxk RW I1 I3 I4
          cases db with
          | true =>
            obtain ⟨z, hz⟩ := nmF_some hnk hdb
            have hlk := mapOf_hit M10 kn hkl hz
            clear M10 hz hdb hnk
            go_upto_region 10 with fail
            rw [HW10.out]
            clear HW10 hw9 s0 s1 s2 m0 m1 m2 hs9 c0 c1 c2 hsc
            go_wp2_with fail
            exact FIN1.out k _ hkn HDB.out I2.out (by rw [HH.out]; exact B10.out)
          | false =>
            have hlk := mapOf_miss M10 kn hkl (nmF_none hnk hdb).1
            obtain ⟨w11, hmu, M11, g11⟩ := mapOf_put M10 (by unfold maxLen; omega) ⟨kn.toArray⟩ (by simpa [ByteArray.size] using hkl) ((k : Nat) : Int) (by simp [Lit.wf, IntKind.min, IntKind.max, IntKind.signed, IntKind.bits]; omega)
            have B11 : Hid (Below H w w11) := Lib.hid (B10.out.grown g11 (Nat.le_of_lt S10.out) (fun _ e => by cases e; exact Nat.le_refl _))
            have S11 : Hid (H < w11.heap.size) := Lib.hid (Nat.lt_of_lt_of_le S10.out g11.size)
            have M11h : Hid (MapOf w11 H (5 + (k + 1)) (nmF (nmR RL) (k + 1))) := Lib.hid (by rw [← nmF_step hnk hdb]; exact M11)
            have NX : Hid (∀ j, j < k + 1 → POrd.dup (nmR RL) j = false) := Lib.hid (fun j h => by
              by_cases e : j = k
              · subst e; exact HDB.out
              · exact I2.out j (by omega))
            clear M10 M11 g11 hdb hnk I2
            go_upto_region 10 with fail
            rw [HW10.out]
            clear HW10 hw9 s0 s1 s2 m0 m1 m2 hs9 c0 c1 c2 hsc
            go_wp2_with fail
            exact ⟨⟨k + 1, rfl, by omega, M11h, NX, B11, S11⟩, by simp [intOf]; omega⟩
        · obtain rfl : k = rn := by omega
          have gk : ¬ (k : Int) < (k : Int) := by omega
          clear hkn
          go_wp2_with fail
          exact FIN2.out _ _ _ I2.out I1.out (by rw [HH.out]; exact I3.out)
end Go.Proofs.YtdkcdgjpcojdfaaGreatDoor

set_option linter.unusedVariables false
namespace Go.Proofs.YtdkcdgjpcojdfaaGreatDoor
open Go.RowKit
open PCheck (Xp Bd)
open PTree (Tr Rl Ex Wf X0)
open POrd (Bset Vset)

theorem make_rowU (L : Nat) (h : L ≤ 1000) (W : World) :
    (Instr.makeSlice 93 (.int .i64 (L : Int)) (.int .i64 (L : Int))).run Tryz.prog W = .ok (.slice (some ⟨W.heap.size, 0, none⟩) L L) (W.alloc (.cells (madeCells #[.int .u64 0] L) 123)) :=
  run_make_row' (P := Tryz.prog) 93 123 (.int .u64 0) 8 Tryz.underlying93 (by kernel_rfl) rfl .i64 .i64 L (by omega) (by omega) W
def RwU (w : World) (H N : Nat) (l : List Nat) : Prop := l.length = N ∧ ∀ t, t < N → w.cell? ⟨H, t, none⟩ = some (.int .u64 ((l.getD t 0 : Nat) : Int)) ∧ w.frozen? ⟨H, t, none⟩ = false
theorem made_rwU (w : World) (L : Nat) : RwU (w.alloc (.cells (madeCells #[.int .u64 0] L) 123)) w.heap.size L (List.replicate L 0) := by
  have e : madeCells #[.int .u64 0] L = (List.replicate L (Value.int .u64 0)).toArray := by
    apply Array.ext'; simp [madeCells, Nat.mod_one, List.map_const']
  rw [e]
  have h := Box.new w 123 (List.replicate L (Value.int .u64 0))
  refine ⟨by simp, fun t ht => ?_⟩
  have hg : (List.replicate L (Value.int .u64 0))[t]? = some (.int .u64 0) := by rw [List.getElem?_replicate, if_pos ht]
  have hd : (List.replicate L 0).getD t 0 = 0 := by rw [List.getD, List.getElem?_replicate, if_pos ht]; rfl
  rw [hd]
  exact ⟨h.c t hg, h.f t hg⟩
theorem RwU.on {w w' : World} {H N : Nat} {l : List Nat} (h : RwU w H N l) (hb : Below w.heap.size w w') : RwU w' H N l :=
  ⟨h.1, fun t ht => ⟨(hb.cell (World.block_lt_of_cell? w _ (h.2 t ht).1)).trans (h.2 t ht).1, (hb.frozen (p := ⟨H, t, none⟩) (World.block_lt_of_cell? w _ (h.2 t ht).1)).trans (h.2 t ht).2⟩⟩
theorem RwU.set {w : World} {H N : Nat} {l : List Nat} (h : RwU w H N l) {t : Nat} (ht : t < N) (z : Nat) : RwU (w.setCell ⟨H, t, none⟩ (.int .u64 ((z : Nat) : Int))) H N (l.set t z) := by
  refine ⟨by rw [List.length_set]; exact h.1, fun s hs => ⟨?_, by rw [box_frozen_set]; exact (h.2 s hs).2⟩⟩
  by_cases e : s = t
  · subst e
    rw [World.cell?_setCell_same _ _ _ (h.2 s hs).1]
    simp [List.getD, h.1, hs]
  · rw [World.cell?_setCell_other _ _ _ _ (by intro c; simp only [Addr.mk.injEq] at c; omega), (h.2 s hs).1]
    simp only [List.getD, List.getElem?_set_ne (Ne.symm e)]
theorem RwU.slx {w : World} {H N : Nat} {l : List Nat} (h : RwU w H N l) : SlX u64R w (some ⟨H, 0, none⟩) N l := by
  refine ⟨h.1, .inr ⟨H, 0, rfl, fun i hi j v e => ?_⟩⟩
  have hj : j = 0 := by
    have := (List.getElem?_eq_some_iff.1 e).1
    simp [u64R] at this; exact this
  subst hj
  have hk : u64R.k = 1 := rfl
  rw [hk, Nat.mul_one, Nat.add_zero, Nat.zero_add]
  have := (h.2 i (by rw [← h.1]; exact hi)).1
  rw [List.getD, List.getElem?_eq_getElem hi] at this
  rw [this]
  simp only [u64R, List.getElem?_cons_zero, Option.some.injEq] at e
  rw [← e]; rfl
theorem name_cases {names : List (List UInt8)} (h : ∀ j, j < names.length → POrd.dup names j = false) (s : List UInt8) :
    (nmF names names.length s = none ∧ ∀ k : Nat, names[k]? ≠ some s) ∨ (nmF names names.length s = some (-1) ∧ ∀ k : Nat, names[k]? ≠ some s) ∨ (∃ j, j < names.length ∧ nmF names names.length s = some ((j : Nat) : Int) ∧ ∀ k : Nat, names[k]? = some s ↔ k = j) := by
  unfold nmF
  by_cases hi : s ∈ POrd.inN
  · refine .inr (.inl ⟨if_pos hi, fun k hk => ?_⟩)
    have hkl := (List.getElem?_eq_some_iff.1 hk).1
    have := (nmF_none hk (h k hkl)).2
    exact this hi
  · rw [if_neg hi]
    cases hl : POrd.least names.length (fun j => names[j]? == some s) with
    | none =>
      refine .inl ⟨rfl, fun k hk => ?_⟩
      have hkl := (List.getElem?_eq_some_iff.1 hk).1
      have := POrd.least_no hl k hkl
      rw [beq_eq_false_iff_ne] at this
      exact this hk
    | some j =>
      obtain ⟨g1, g2, g3⟩ := POrd.least_is hl
      have g2 : names[j]? = some s := by simpa using g2
      refine .inr (.inr ⟨j, g1, rfl, fun k => ⟨fun hk => ?_, fun e => by rw [e]; exact g2⟩⟩)
      have hkl := (List.getElem?_eq_some_iff.1 hk).1
      apply Classical.byContradiction
      intro hne
      by_cases hlt : k < j
      · have := g3 k hlt
        rw [beq_eq_false_iff_ne] at this
        exact this hk
      · have := h k hkl
        rw [dup_old hk (show j < k by omega) g2] at this
        cases this
def Acc (rs : List Rl) (names : List (List UInt8)) (i j a : Nat) : Prop := a < 1152921504606846976 ∧ ∀ k, a.testBit k = true ↔ (k < rs.length ∧ ∃ (q : Nat) (x : Xp), q < j ∧ (xpX rs)[offs rs i + q]? = some x ∧ x.op = PCheck.nameS ∧ names[k]? = some x.name)
theorem acc_zero (rs : List Rl) (names : List (List UInt8)) (i : Nat) : Acc rs names i 0 0 := ⟨by decide, fun k => by
  rw [Nat.zero_testBit]
  exact ⟨(fun h => by cases h), fun ⟨_, q, x, h, _⟩ => absurd h (Nat.not_lt_zero _)⟩⟩
theorem acc_skip {rs : List Rl} {names : List (List UInt8)} {i j a : Nat} {x : Xp} (h : Acc rs names i j a) (hx : (xpX rs)[offs rs i + j]? = some x) (hn : x.op ≠ PCheck.nameS ∨ ∀ k : Nat, names[k]? ≠ some x.name) : Acc rs names i (j + 1) a := by
  refine ⟨h.1, fun k => ?_⟩
  rw [h.2 k]
  constructor
  · rintro ⟨h1, q, y, h2, h3⟩; exact ⟨h1, q, y, by omega, h3⟩
  · rintro ⟨h1, q, y, h2, h3, h4, h5⟩
    refine ⟨h1, q, y, ?_, h3, h4, h5⟩
    by_cases e : q = j
    · subst e
      rw [hx] at h3; cases h3
      rcases hn with hn | hn
      · exact absurd h4 hn
      · exact absurd h5 (hn k)
    · omega
theorem acc_put {rs : List Rl} {names : List (List UInt8)} {i j a z : Nat} {x : Xp} (h : Acc rs names i j a) (hx : (xpX rs)[offs rs i + j]? = some x) (ho : x.op = PCheck.nameS) (hz : z < rs.length) (h60 : rs.length ≤ 60) (hn : ∀ k : Nat, names[k]? = some x.name ↔ k = z) : Acc rs names i (j + 1) (a ||| 2 ^ z) := by
  refine ⟨?_, fun k => ?_⟩
  · have h2 : 2 ^ z < 2 ^ 60 := Nat.pow_lt_pow_right (by omega) (by omega)
    have := Nat.or_lt_two_pow (n := 60) (x := a) (y := 2 ^ z) (by have := h.1; omega) h2
    omega
  · rw [Nat.testBit_or, Bool.or_eq_true, h.2 k, Nat.testBit_two_pow, decide_eq_true_eq]
    constructor
    · rintro (⟨h1, q, y, h2, h3⟩ | e)
      · exact ⟨h1, q, y, by omega, h3⟩
      · subst e
        exact ⟨hz, j, x, by omega, hx, ho, (hn z).2 rfl⟩
    · rintro ⟨h1, q, y, h2, h3, h4, h5⟩
      by_cases e : q = j
      · subst e
        rw [hx] at h3; cases h3
        exact .inr ((hn k).1 h5).symm
      · exact .inl ⟨h1, q, y, by omega, h3, h4, h5⟩
theorem acc_end {rs : List Rl} (hW : ∀ r ∈ rs, Wf X0 r.tree) {i a : Nat} {r : Rl} (hi : rs[i]? = some r) (h : Acc rs (nmR (rwX rs)) i r.tree.size a) (k : Nat) : a.testBit k = (decide (k < rs.length) && POrd.hangs rs i k) := by
  rw [Bool.eq_iff_iff, h.2 k, Bool.and_eq_true, decide_eq_true_eq]
  refine and_congr_right fun hk => ?_
  have hq : rs[k]? = some rs[k] := List.getElem?_eq_getElem hk
  rw [hang_rows hW hi hq]
  have hnk : (nmR (rwX rs))[k]? = some rs[k].name := by unfold nmR; rw [List.getElem?_map, rw_at hq]; rfl
  constructor
  · rintro ⟨q, x, h2, h3, h4, h5⟩
    rw [hnk] at h5
    exact ⟨offs rs i + q, x, by omega, by omega, h3, h4, (Option.some.inj h5).symm⟩
  · rintro ⟨j, x, h2, h3, h4, h5, h6⟩
    exact ⟨j - offs rs i, x, by omega, by rw [show offs rs i + (j - offs rs i) = j by omega]; exact h4, h5, by rw [hnk, h6]⟩
end Go.Proofs.YtdkcdgjpcojdfaaGreatDoor
