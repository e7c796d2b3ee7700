/-
  Same: two programs of the same rows are the same.
-/
import Derived.Test.YtjcfgdldmgmiaaaDoorLaw08Ref
import Derived.BigQuiet
namespace Go.Proofs.YtjcfgdldmgmiaaaDoor
open Go.RowKit
open PTree (Ex Row)

/-- The blocks of two arguments. -/
theorem same_enter (w : World) (t : TypeId) (a b c d : Value) : ∃ w1, (w.alloc (.cells #[a, b] t)).alloc (.cells #[c, d] t) = w1 ∧ Box w1 w.heap.size [a, b] ∧ Box w1 (w.heap.size + 1) [c, d] ∧ Below w.heap.size w w1 := by
  refine ⟨_, rfl, (Box.new w t [a, b]).alloc _, Box.new' _ t [c, d] (by simp), ((Below.refl _ _).alloc (Nat.le_refl _) _).alloc (by simp) _⟩
set_option maxRecDepth 100000 in
set_option maxHeartbeats 6400000 in
theorem tsame_any {w : World} {A B A' B' : Option Addr} {n m ca cb ca' cb' : Nat} {rows : List Row} {exs : List Ex} (hA : SlX rowR w A n rows) (hB : SlX exR w B m exs) (hA' : SlX rowR w A' n rows) (hB' : SlX exR w B' m exs) (hr : rows.length = n) (he : exs.length = m) (hn : n ≤ 90000) (hm : m ≤ 90000) :
    Calls Tryd.prog 13 #[.agg #[.slice A n ca, .slice B m cb], .agg #[.slice A' n ca', .slice B' m cb']] w fun e w' => e = .returned (.bool true) ∧ Below w.heap.size w w' := by
  obtain ⟨w1, hw1, TB, UB, b1⟩ := same_enter w 33 (.slice A n ca) (.slice B m cb) (.slice A' n ca') (.slice B' m cb')
  have SA := Lib.hid (hA.on b1); have SB := Lib.hid (hB.on b1); have SA' := Lib.hid (hA'.on b1); have SB' := Lib.hid (hB'.on b1)
  have HR := Lib.hid hr; have HE := Lib.hid he
  have gn : (n : Int) ≤ 90000 := by omega
  have gm : (m : Int) ≤ 90000 := by omega
  have nn : ((n : Int) != (n : Int)) = false := bne_self_eq_false _
  have mm : ((m : Int) != (m : Int)) = false := bne_self_eq_false _
  obtain ⟨p0, p1⟩ := box2 TB
  obtain ⟨q0, q1⟩ := box2 UB
  have hs0 := TB.1
  have hs1 := UB.1
  have TB := Lib.hid TB; have UB := Lib.hid UB; have B1 := Lib.hid b1
  have HW1 := Lib.hid hw1
  clear hA hB hA' hB' hr he b1 hw1
  go_enter Tryd.func13, Tryd.ntmps13
  go_upto_region 1 with fail
  rw [HW1.out]
  clear HW1
  go_wp2_with fail
  clear p0 p1 q0 q1 hs0 hs1
  go_loopw [5] (fun i wr => ∃ (k : Nat), k ≤ n ∧ i = .int .i64 k ∧ Hid (Below w1.heap.size w1 wr)) (fun i _ => n - (intOf i).toNat)
  case atStart => exact ⟨0, Nat.zero_le _, rfl, Lib.hid (Below.refl _ _)⟩
  case round =>
    obtain ⟨k, hk, rfl, I⟩ := hrel
    have T2 := TB.out.on I.out
    have U2 := UB.out.on I.out
    obtain ⟨p0, p1⟩ := box2 T2
    obtain ⟨q0, q1⟩ := box2 U2
    have hs0 := T2.1
    have hs1 := U2.1
    by_cases hlt : k < n
    · obtain ⟨b, off, rfl, hc⟩ := (SA.out.on I.out).at hlt
      obtain ⟨b', off', rfl, hc'⟩ := (SA'.out.on I.out).at hlt
      have hkl : k < rows.length := by rw [HR.out]; exact hlt
      obtain ⟨y, hy⟩ : ∃ y, rows[k] = y := ⟨_, rfl⟩
      have hc := hc k hkl
      have hc' := hc' k hkl
      rw [hy] at hc hc'
      have c0 : wr.cell? ⟨b, off + k * 3, none⟩ = some (.string ⟨y.kind.toArray⟩) := by simpa [rowR] using hc 0 _ rfl
      have c1 : wr.cell? ⟨b, off + k * 3 + 1, none⟩ = some (.string ⟨y.name.toArray⟩) := hc 1 _ rfl
      have c2 : wr.cell? ⟨b, off + k * 3 + 2, none⟩ = some (.int .i64 y.root) := hc 2 _ rfl
      have e0 : wr.cell? ⟨b', off' + k * 3, none⟩ = some (.string ⟨y.kind.toArray⟩) := by simpa [rowR] using hc' 0 _ rfl
      have e1 : wr.cell? ⟨b', off' + k * 3 + 1, none⟩ = some (.string ⟨y.name.toArray⟩) := hc' 1 _ rfl
      have e2 : wr.cell? ⟨b', off' + k * 3 + 2, none⟩ = some (.int .i64 y.root) := hc' 2 _ rfl
      have hsb := World.block_lt_of_cell? wr _ c0
      have hsb' := World.block_lt_of_cell? wr _ e0
      clear hc hc' T2 U2 hy
      go_wp2_with fail
      go_big_quiet (fail)
      go_wp2_with fail
      exact ⟨⟨k + 1, by omega, rfl, Lib.hid (below_drewT I.out _)⟩, by simp [intOf]; omega⟩
    · obtain rfl : k = n := by omega
      obtain ⟨wo, hwo⟩ : ∃ wo, wo = wr := ⟨_, rfl⟩
      subst hwo
      clear T2 U2 hlt
      go_wp2_with fail
      clear p0 p1 q0 q1 hs0 hs1
      go_loopw [6] (fun i wx => ∃ (q : Nat), q ≤ m ∧ i = .int .i64 q ∧ Hid (Below w1.heap.size w1 wx)) (fun i _ => m - (intOf i).toNat)
      case atStart => exact ⟨0, Nat.zero_le _, rfl, I⟩
      case round =>
        clear I
        obtain ⟨q, hq, rfl, I⟩ := hrel
        have T2 := TB.out.on I.out
        have U2 := UB.out.on I.out
        obtain ⟨p0, p1⟩ := box2 T2
        obtain ⟨q0, q1⟩ := box2 U2
        have hs0 := T2.1
        have hs1 := U2.1
        by_cases hlt : q < m
        · obtain ⟨b, off, rfl, hc⟩ := (SB.out.on I.out).at hlt
          obtain ⟨b', off', rfl, hc'⟩ := (SB'.out.on I.out).at hlt
          have hkl : q < exs.length := by rw [HE.out]; exact hlt
          obtain ⟨y, hy⟩ : ∃ y, exs[q] = y := ⟨_, rfl⟩
          have hc := hc q hkl
          have hc' := hc' q hkl
          rw [hy] at hc hc'
          have c0 : wr.cell? ⟨b, off + q * 6, none⟩ = some (.string ⟨y.op.toArray⟩) := by simpa [exR] using hc 0 _ rfl
          have c1 : wr.cell? ⟨b, off + q * 6 + 1, none⟩ = some (.string ⟨y.name.toArray⟩) := hc 1 _ rfl
          have c2 : wr.cell? ⟨b, off + q * 6 + 2, none⟩ = some (.int .i64 y.value) := hc 2 _ rfl
          have c3 : wr.cell? ⟨b, off + q * 6 + 3, none⟩ = some (.int .i64 y.a) := hc 3 _ rfl
          have c4 : wr.cell? ⟨b, off + q * 6 + 4, none⟩ = some (.int .i64 y.b) := hc 4 _ rfl
          have c5 : wr.cell? ⟨b, off + q * 6 + 5, none⟩ = some (.int .i64 y.c) := hc 5 _ rfl
          have e0 : wr.cell? ⟨b', off' + q * 6, none⟩ = some (.string ⟨y.op.toArray⟩) := by simpa [exR] using hc' 0 _ rfl
          have e1 : wr.cell? ⟨b', off' + q * 6 + 1, none⟩ = some (.string ⟨y.name.toArray⟩) := hc' 1 _ rfl
          have e2 : wr.cell? ⟨b', off' + q * 6 + 2, none⟩ = some (.int .i64 y.value) := hc' 2 _ rfl
          have e3 : wr.cell? ⟨b', off' + q * 6 + 3, none⟩ = some (.int .i64 y.a) := hc' 3 _ rfl
          have e4 : wr.cell? ⟨b', off' + q * 6 + 4, none⟩ = some (.int .i64 y.b) := hc' 4 _ rfl
          have e5 : wr.cell? ⟨b', off' + q * 6 + 5, none⟩ = some (.int .i64 y.c) := hc' 5 _ rfl
          have hsb := World.block_lt_of_cell? wr _ c0
          have hsb' := World.block_lt_of_cell? wr _ e0
          clear hc hc' T2 U2 hy
          go_wp2_with fail
          go_big_quiet (fail)
          go_wp2_with fail
          exact ⟨⟨q + 1, by omega, rfl, Lib.hid (below_drewT I.out _)⟩, by simp [intOf]; omega⟩
        · obtain rfl : q = m := by omega
          have BF := Lib.hid (below_step B1.out I.out)
          clear T2 U2 hlt
          go_wp2_with fail
          go_ret
          exact ⟨rfl, BF.out⟩
end Go.Proofs.YtjcfgdldmgmiaaaDoor
