/-
  Somebody leaves: what the landed master answers.
-/
import Derived.Test.YtbnnmakmgleikaaMaHire
set_option linter.unusedVariables false
set_option linter.unusedSimpArgs false
namespace Go.Proofs.Ytbnnmakmgleikaa
open Go.RowKit

/-- The two blocks that are laid first. -/
theorem ma_enter2 (w : World) (a : Value) (t : TypeId) : ∃ w1, (w.alloc (.cells #[a] t)).alloc (.cells #[.slice none 0 0] t) = w1 ∧ Box w1 w.heap.size [a] ∧ Box w1 (w.heap.size + 1) [.slice none 0 0] ∧ Below w.heap.size w w1 :=
  ⟨_, rfl, (Box.new w t [a]).alloc _, Box.new' _ t [.slice none 0 0] (by simp), ((Below.refl _ _).alloc (Nat.le_refl _) _).alloc (by simp) _⟩
/-- A person's block that is laid out of the one found. -/
theorem raw_box (w : World) (a b c d e : Value) (t : TypeId) : ∃ w7, w.alloc (.cells #[a, b, c, d, e] t) = w7 ∧ Box w7 w.heap.size [a, b, c, d, e] ∧ Below w.heap.size w w7 :=
  ⟨_, rfl, Box.new _ _ [a, b, c, d, e], (Below.refl _ _).alloc (Nat.le_refl _) _⟩
set_option maxRecDepth 100000 in
set_option maxHeartbeats 12800000 in
theorem kleave_any {w : World} {A : Option Addr} {n c : Nat} {M : List PMa.Per} (hM : MaI w A n c M) (hF : PMa.Fine M) (hn : n ≤ 80000) (id t : Int) :
    Calls Try.prog 16 #[.agg #[.slice A n c], .int .i64 id, .int .i64 t] w (MaB (PMa.leave M id t).1 (PMa.leave M id t).2 w) := by
  obtain ⟨Q, hQ⟩ : ∃ Q, MaB (PMa.leave M id t).1 (PMa.leave M id t).2 w = Q := ⟨_, rfl⟩
  rw [hQ]
  have F : Hid (∀ M' z A n c w', PMa.leave M id t = (M', z) → MaI w' A n c M' → Below w.heap.size w w' → Q (.returned (.tuple #[.agg #[.slice A n c], .int .i64 z])) w') := Lib.hid (fun M' z A n c w' h hi hb => by
    rw [← hQ, h]; exact ⟨A, n, c, rfl, hi, hb⟩)
  obtain ⟨w1, hw1, XB, RB, b1⟩ := ma_enter2 w (.slice A n c) 26
  have y0 := b1m XB
  have hsx := XB.1
  have hMn : M.length = n := hM.s.len
  have CP := kplace_any (c := c) (hM.on b1).s hF (by omega) id
  obtain ⟨pl, hpl⟩ : ∃ p, PMa.place M id = p := ⟨_, rfl⟩
  have HW1 := Lib.hid hw1; have HX := Lib.hid XB; have HR := Lib.hid RB; have B1 := Lib.hid b1; have HMN := Lib.hid hMn; have HM := Lib.hid hM
  have hbase : w.heap.size ≤ w.heap.size + 1 := by omega
  have ERR : Hid (∀ z w2, PMa.leave M id t = (M, z) → Below w1.heap.size w1 w2 → ∃ w3, w2.setCell ⟨w.heap.size + 1, 0, none⟩ (.slice A n c) = w3 ∧ Box w2 (w.heap.size + 1) [.slice none 0 0] ∧ Box w3 (w.heap.size + 1) [.slice A n c] ∧ Q (.returned (.tuple #[.agg #[.slice A n c], .int .i64 z])) w3) := Lib.hid (fun z w2 hz hb => by
    have R2 := HR.out.on hb
    obtain ⟨w3, hw3, R3, ON3⟩ := set1 R2 (.slice A n c)
    have B3 := ON3.below hbase (below_step B1.out hb)
    exact ⟨w3, hw3, R2, R3, F.out _ _ _ _ _ _ hz (HM.out.on B3) B3⟩)
  cases ht : PMa.there M id with
  | false =>
    have HE : Hid (PMa.leave M id t = (M, 5)) := Lib.hid (by unfold PMa.leave; rw [ht]; rfl)
    rw [ht, hpl] at CP
    have CP := Lib.hid CP
    clear hQ hw1 XB RB b1 hM hpl ht hMn
    go_enter Try.func16, Try.ntmps16
    go_upto_region 1 with fail
    rw [HW1.out]
    clear HW1
    go_wp2_with (go_at_call 24; refine CP.out.mono ?_)
    intro e2 w2 h2
    obtain ⟨rfl, b2⟩ := h2
    have y0 := b1m (HX.out.on b2)
    have hsx := (HX.out.on b2).1
    obtain ⟨w3, hw3, R2, R3, q⟩ := ERR.out 5 w2 HE.out b2
    have r0 := b1m R2; have rf := b1f R2; have hsr := R2.1
    have k0 := b1m R3; have hk := R3.1
    have HW3 := Lib.hid hw3; have HQ3 := Lib.hid q
    clear b2 CP hw3 R2 R3 q
    go_wp2_with fail
    rw [HW3.out]
    clear r0 rf hsr y0 hsx
    refine bodyPost_ret (by simp [results, Try.results16, go_sem, k0]; try rfl) rfl ?_
    exact HQ3.out
  | true =>
    obtain ⟨p, hp, hid, hd⟩ := place_at ht
    obtain ⟨i1, hi1⟩ : ∃ p, PMa.isPer t = p := ⟨_, rfl⟩
    have HH : Hid (PMa.leave M id t = if !i1 || decide (t ≤ p.hired) then (M, 1) else (PMa.with_ M pl (pl + 1) { p with gone := t }, 0)) := Lib.hid (by
      unfold PMa.leave
      rw [ht, hd, hi1, hpl]; rfl)
    rw [ht, hpl] at CP
    rw [hpl] at hp
    have CP := Lib.hid CP
    have CI := Lib.hid (fun wz => (by have h := isper_any t wz; rw [hi1] at h; exact h : Calls Try.prog 28 #[.int .i64 t] wz (SameM (.bool i1) wz)))
    obtain ⟨rs, hS, hO⟩ := hM.s
    have hpn : pl < n := by rw [← hMn]; exact (List.getElem?_eq_some_iff.1 hp).1
    obtain ⟨bA, oA, rfl, -⟩ := hS.at hpn
    obtain ⟨r, hr⟩ : ∃ r, rs[pl]? = some r := ⟨_, List.getElem?_eq_getElem (by rw [hS.1]; exact hpn)⟩
    have hok := hO.at_ pl r p hr hp
    have hrh : r.hired = p.hired := hok.hired
    have HRH := Lib.hid hrh
    have HSl := Lib.hid hS; have HRr := Lib.hid hr; have HOK := Lib.hid hok; have HO := Lib.hid hO; have HPN := Lib.hid hpn
    have gp : (pl : Int) < (n : Int) := by omega
    have gp0 : (0 : Int) ≤ (pl : Int) := by omega
    clear hQ hw1 XB RB b1 ht hpl hM hS hO hr hok hp hd hid hMn hi1 hrh hpn
    go_enter Try.func16, Try.ntmps16
    go_upto_region 1 with fail
    rw [HW1.out]
    clear HW1
    go_wp2_with (go_at_call 24; refine CP.out.mono ?_)
    intro e2 w2 h2
    obtain ⟨rfl, b2⟩ := h2
    have B2 := Lib.hid b2
    have y0 := b1m (HX.out.on b2)
    have hsx := (HX.out.on b2).1
    have BB2 := Lib.hid (below_step B1.out b2)
    obtain ⟨l0, l1, l2, l3, l4⟩ := raw_cell (HSl.out.on BB2.out) HPN.out HRr.out
    have hsl := World.block_lt_of_cell? w2 _ l0
    have C1 := Lib.hid (CI.out w2)
    clear b2 CP CI
    cases i1 with
    | false =>
      obtain ⟨w3, hw3, R2, R3, q⟩ := ERR.out 1 w2 (by rw [HH.out]; simp) B2.out
      have r0 := b1m R2; have rf := b1f R2; have hsr := R2.1
      have k0 := b1m R3; have hk := R3.1
      have HW3 := Lib.hid hw3; have HQ3 := Lib.hid q
      clear hw3 R2 R3 q
      go_wp2_with (go_at_call 28; refine C1.out.mono ?_)
      rintro e3 w4 ⟨rfl, rfl⟩
      go_wp2_with fail
      rw [HW3.out]
      clear r0 rf hsr y0 hsx l0 l1 l2 l3 l4 hsl
      refine bodyPost_ret (by simp [results, Try.results16, go_sem, k0]; try rfl) rfl ?_
      exact HQ3.out
    | true =>
      by_cases hle : t ≤ r.hired
      · have e1 : decide (t ≤ r.hired) = true := decide_eq_true hle
        obtain ⟨w3, hw3, R2, R3, q⟩ := ERR.out 1 w2 (by rw [HH.out, ← HRH.out]; simp [hle]) B2.out
        have r0 := b1m R2; have rf := b1f R2; have hsr := R2.1
        have k0 := b1m R3; have hk := R3.1
        have HW3 := Lib.hid hw3; have HQ3 := Lib.hid q
        clear hw3 R2 R3 q
        go_wp2_with (go_at_call 28; refine C1.out.mono ?_)
        rintro e3 w4 ⟨rfl, rfl⟩
        go_wp2_with fail
        rw [HW3.out]
        clear r0 rf hsr y0 hsx l0 l1 l2 l3 l4 hsl
        refine bodyPost_ret (by simp [results, Try.results16, go_sem, k0]; try rfl) rfl ?_
        exact HQ3.out
      · have e1 : decide (t ≤ r.hired) = false := decide_eq_false hle
        have HE : Hid (PMa.leave M id t = (PMa.with_ M pl (pl + 1) { p with gone := t }, 0)) := Lib.hid (by rw [HH.out, ← HRH.out]; simp [hle])
        clear hle
        go_wp2_with (go_at_call 28; refine C1.out.mono ?_)
        rintro e3 w4 ⟨rfl, rfl⟩
        obtain ⟨w9, hw9, P9, b49⟩ := raw_box w4 (.int .i64 r.id) (.int .i64 r.hired) (.int .i64 t) (.slice r.A r.n r.c) (.slice r.B r.m r.d) 53
        have BW := Lib.hid (below_step BB2.out b49)
        have BX := Lib.hid (below_step B2.out b49)
        have X9 := Lib.hid (HX.out.on BX.out)
        have R9 := Lib.hid (HR.out.on BX.out)
        have CW := Lib.hid (with_P (HSl.out.on BW.out) HM.out.a0 HM.out.nc HM.out.cm (Nat.le_succ pl) (by have := HPN.out; omega) (by omega) ⟨r.id, r.hired, t, r.A, r.n, r.c, r.B, r.m, r.d⟩)
        have HW9 := Lib.hid hw9; have HP9 := Lib.hid P9
        clear P9 b49 hw9 C1
        go_upto_region 8 with fail
        rw [HW9.out]
        obtain ⟨z0, z1, z2, z3, z4⟩ := box5 HP9.out
        have hsz := HP9.out.1
        have y0 := b1m X9.out
        have hsx := X9.out.1
        clear l0 l1 l2 l3 l4 hsl
        go_wp2_with (go_at_call 27; refine CW.out.mono ?_)
        intro e9 wa h9
        obtain ⟨g, cap, rfl, hg9, S9, hc9, hm9, b9⟩ := h9
        have hg2 : w.heap.size + 1 < g := by have := R9.out.1; omega
        have Ra := R9.out.on b9
        obtain ⟨wb, hwb, Rb, ONb⟩ := set1 Ra (.slice (some ⟨g, 0, none⟩) (pl + 1 + (n - (pl + 1))) cap)
        have Bb := Lib.hid (ONb.below hbase (below_step BW.out b9))
        have FZ := Lib.hid (F.out _ _ _ _ _ wb HE.out (maI_with HO.out HMN.out Bb.out (by have := HPN.out; omega) (Nat.le_succ pl) (r := ⟨r.id, r.hired, t, r.A, r.n, r.c, r.B, r.m, r.d⟩) (p := { p with gone := t })
          ⟨(HOK.out.on Bb.out).id, (HOK.out.on Bb.out).hired, rfl, (HOK.out.on Bb.out).recs, (HOK.out.on Bb.out).ords, HOK.out.a0, HOK.out.b0, HOK.out.ac, HOK.out.bd, HOK.out.cm, HOK.out.dm⟩
          (SlX.only S9 ONb (fun b o e hn => by cases e; omega)) hc9 hm9) Bb.out)
        have r0 := b1m Ra; have rf := b1f Ra; have hsr := Ra.1
        have k0 := b1m Rb; have hk := Rb.1
        have HWb := Lib.hid hwb
        clear b9 S9 Ra Rb ONb hwb CW z0 z1 z2 z3 z4 hsz y0 hsx
        go_wp2_with fail
        rw [HWb.out]
        clear r0 rf hsr
        refine bodyPost_ret (by simp [results, Try.results16, go_sem, k0]; try rfl) rfl ?_
        exact FZ.out
end Go.Proofs.Ytbnnmakmgleikaa
