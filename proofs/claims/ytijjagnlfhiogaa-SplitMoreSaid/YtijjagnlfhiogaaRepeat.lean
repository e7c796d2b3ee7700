/-
  slices.Repeat of one number: a row of so many of it.
-/
import Derived.Test.YtijjagnlfhiogaaSplit
import Derived.Laws.IdiomCopy
import Derived.Deep.RegionHeld3
namespace Go.Proofs.Ytijjagnlfhiogaa
open Go.RowKit

theorem setCells_len (b : Nat) : ∀ (vs : List Value) (o : Nat) (w : World), (w.setCells b o vs).heap.size = w.heap.size
  | [], _, _ => rfl
  | v :: r, o, w => by rw [World.setCells, setCells_len b r]; simp [World.setCell]
theorem below_setCells {B b : Nat} (hb : B ≤ b) : ∀ (vs : List Value) (o : Nat) (a w : World), Below B a w → Below B a (w.setCells b o vs)
  | [], _, _, _, h => h
  | v :: r, o, a, w, h => by rw [World.setCells]; exact below_setCells hb r (o + 1) a _ (h.setCell hb v)
/-- The row once more numbers are copied. -/
theorem Rw.copied {w : World} {H N k m : Nat} {l : List Int} {d : Int} (h : Rw w H N l) (hl : ∀ t, t < k → l.getD t 0 = d) (hm : k + m ≤ N) :
    ∃ l', Rw (w.setCells H k (List.replicate m (.int .i64 d))) H N l' ∧ ∀ t, t < k + m → l'.getD t 0 = d := by
  refine ⟨(List.range N).map (fun t => if k ≤ t ∧ t < k + m then d else l.getD t 0), ⟨by simp, fun t ht => ⟨?_, by rw [World.frozen?_setCells]; exact (h.2 t ht).2⟩⟩, fun t ht => ?_⟩
  · have e : ((List.range N).map (fun t => if k ≤ t ∧ t < k + m then d else l.getD t 0)).getD t 0 = if k ≤ t ∧ t < k + m then d else l.getD t 0 := by simp [List.getD, ht]
    rw [e]
    by_cases hc : k ≤ t ∧ t < k + m
    · rw [if_pos hc]
      have := World.cell?_setCells_in H (List.replicate m (.int .i64 d)) k w (fun j hj => by
        rw [(h.2 (k + j) (by simp at hj; omega)).1]; rfl) (t - k) (by simp; omega)
      rw [show k + (t - k) = t by omega] at this
      rw [this]; simp
    · rw [if_neg hc, World.cell?_setCells_out H _ k w _ (fun _ _ => by simp; omega)]
      exact (h.2 t ht).1
  · have htN : t < N := by omega
    have e : ((List.range N).map (fun t => if k ≤ t ∧ t < k + m then d else l.getD t 0)).getD t 0 = if k ≤ t ∧ t < k + m then d else l.getD t 0 := by simp [List.getD, htN]
    rw [e]
    by_cases hc : k ≤ t ∧ t < k + m
    · rw [if_pos hc]
    · rw [if_neg hc]; exact hl t (by omega)

theorem copy_run {w : World} {H N k m L C : Nat} {l : List Int} {d : Int} {a : Addr} {sL sC : Nat} (h : Rw w H N l) (hm : m = Nat.min sL L) (hk : k + m ≤ N) (hs : ∀ j, j < m → w.cell? (a.add j) = some (.int .i64 d)) :
    (Builtin.copy_ #[22, 22] 3 #[.slice (some ⟨H, k, none⟩) L C, .slice (some a) sL sC]).run Try.prog w = .ok (.int .i64 (m : Int)) (w.setCells H k (List.replicate m (.int .i64 d))) := by
  obtain ⟨i0, hi, hz0, hz1, hz2⟩ := info_parts infoInt
  have := run_copy_cells (P := Try.prog) w 22 22 3 3 H k L C a sL sC (List.replicate m (.int .i64 d)) Try.underlying22 (by rw [hi]; simp [hz1]) (by simp [hm])
    (fun j v hj => by
      have hj' : j < m := by have := (List.getElem?_eq_some_iff.1 hj).1; simpa using this
      rw [List.getElem?_replicate_of_lt hj'] at hj
      injection hj with hj
      rw [← hj]; exact hs j hj')
    (fun j hj => by rw [(h.2 (k + j) (by simp at hj; omega)).1]; rfl) (fun j hj => (h.2 (k + j) (by simp at hj; omega)).2) (fun v hv => by rw [List.eq_of_mem_replicate hv]; rfl)
  rw [this]
  simp [goInt]

set_option maxHeartbeats 3200000 in
set_option maxRecDepth 100000 in
theorem repeat_any (b o c N : Nat) (d : Int) (w : World) (hx : w.cell? ⟨b, o, none⟩ = some (.int .i64 d)) (h0 : 0 < N) (hN : N ≤ 1000) :
    Calls Try.prog 20 #[.slice (some ⟨b, o, none⟩) 1 c, .int .i64 N] w fun e w' => e = .returned (.slice (some ⟨w.heap.size, 0, none⟩) N N) ∧ Rw w' w.heap.size N (List.replicate N d) ∧ Below w.heap.size w w' := by
  have hmk := make_row N hN
  have hmul : ∀ w, Calls Try.prog 33 #[.int .u64 1, .int .u64 N] w fun e w' => e = .returned (.tuple #[.int .u64 0, .int .u64 N]) ∧ w = w' := by
    intro w
    refine (Try.bits_Mul 1 N (by omega) (by omega) w).mono ?_
    rintro e w' ⟨rfl, rfl⟩
    refine ⟨?_, rfl⟩
    simp
    omega
  have n0 : ¬ (N : Int) < 0 := by omega
  have HM := Lib.hid hmul; clear hmul
  have R0 : Hid (Rw (w.alloc (.cells (madeCells #[.int .i64 0] N) 3)) w.heap.size N (List.replicate N 0)) := Lib.hid (Rw.of_row (made_row w w.heap.size N rfl hN) List.length_replicate)
  have B0 : Hid (Below w.heap.size w (w.alloc (.cells (madeCells #[.int .i64 0] N) 3))) := Lib.hid ((Below.refl _ _).alloc (Nat.le_refl _) _)
  have hcp : ∀ C, (Builtin.copy_ #[22, 22] 3 #[.slice (some ⟨w.heap.size, 0, none⟩) N C, .slice (some ⟨b, o, none⟩) 1 c]).run Try.prog (w.alloc (.cells (madeCells #[.int .i64 0] N) 3)) = .ok (.int .i64 1) ((w.alloc (.cells (madeCells #[.int .i64 0] N) 3)).setCells w.heap.size 0 [.int .i64 d]) := fun C =>
    copy_run (m := 1) R0.out (Nat.min_eq_left (by omega)).symm (by omega) (fun j hj => by
      obtain rfl : j = 0 := by omega
      exact (B0.out.cell (World.block_lt_of_cell? w _ hx)).trans hx)
  go_enter Try.func20, Try.ntmps20
  go_wp2_with fail
  refine (HM.out _).mono ?_
  rintro _ _ ⟨rfl, rfl⟩
  go_wp2_with fail
  obtain ⟨w1, hw1⟩ : ∃ w1, w1 = w.alloc (.cells (madeCells #[.int .i64 0] N) 3) := ⟨_, rfl⟩
  rw [← hw1] at R0 B0 ⊢
  clear hw1 hmk hcp HM
  have R1 : Hid (∃ l', Rw (w1.setCells w.heap.size 0 [.int .i64 d]) w.heap.size N l' ∧ ∀ t, t < 1 → l'.getD t 0 = d) := Lib.hid (R0.out.copied (k := 0) (m := 1) (fun t ht => by omega) (by omega))
  have B1 : Hid (Below w.heap.size w (w1.setCells w.heap.size 0 [.int .i64 d])) := Lib.hid (below_setCells (Nat.le_refl _) _ _ _ _ B0.out)
  clear R0 B0
  obtain ⟨w2, hw2⟩ : ∃ w2, w2 = w1.setCells w.heap.size 0 [.int .i64 d] := ⟨_, rfl⟩
  rw [← hw2] at R1 B1 ⊢
  clear hw2
  go_loopw [8] (fun i wr => ∃ (k : Nat) (l : List Int), 0 < k ∧ k ≤ N ∧ i = .int .i64 k ∧ Hid (Rw wr w.heap.size N l) ∧ Hid (∀ t, t < k → l.getD t 0 = d) ∧ Hid (Below w.heap.size w wr)) (fun i _ => N - (intOf i).toNat)
  case atStart =>
    obtain ⟨l', h1, h2⟩ := R1.out
    exact ⟨1, l', by omega, by omega, rfl, (show Hid _ from h1), (show Hid _ from h2), B1⟩
  case round =>
    obtain ⟨k, l, hk0, hk, rfl, RW, HL, HB⟩ := hrel
    by_cases hlt : k < N
    · obtain ⟨m, hm⟩ : ∃ m, m = Nat.min k (N - k) := ⟨_, rfl⟩
      have hm1 : k + m ≤ N := by rw [hm]; have := Nat.min_le_right k (N - k); show k + min k (N - k) ≤ N; omega
      have hm2 : 0 < m := by rw [hm]; show 0 < min k (N - k); omega
      have hcp : ∀ C C' wz, Below (w.heap.size + 1) wr wz → (Builtin.copy_ #[22, 22] 3 #[.slice (some ⟨w.heap.size, k, none⟩) (N - k) C, .slice (some ⟨w.heap.size, 0, none⟩) k C']).run Try.prog wz = .ok (.int .i64 m) (wz.setCells w.heap.size k (List.replicate m (.int .i64 d))) := fun C C' wz hz =>
        copy_run (l := l) ⟨RW.out.1, fun t ht => ⟨(hz.cell (p := ⟨w.heap.size, t, none⟩) (by simp)).trans (RW.out.2 t ht).1, (hz.frozen (p := ⟨w.heap.size, t, none⟩) (by simp)).trans (RW.out.2 t ht).2⟩⟩ hm hm1 (fun j hj => by
          have hjk : j < k := by rw [hm] at hj; have : j < min k (N - k) := hj; omega
          have hadd : (⟨w.heap.size, 0, none⟩ : Addr).add j = ⟨w.heap.size, j, none⟩ := by unfold Addr.add; split <;> simp_all
          rw [hadd, hz.cell (p := ⟨w.heap.size, j, none⟩) (by simp), (RW.out.2 j (by omega)).1, HL.out j hjk])
      have hcp0 := fun C C' => hcp C C' wr (Below.refl _ _)
      have hcp1 := fun C C' => hcp C C' wr.drew (Below.refl _ _).drew
      clear hcp
      have R2 : Hid (∃ l', Rw (wr.drew.setCells w.heap.size k (List.replicate m (.int .i64 d))) w.heap.size N l' ∧ ∀ t, t < k + m → l'.getD t 0 = d) := Lib.hid ((RW.out.on (Below.refl _ _).drew).copied HL.out hm1)
      have B2 : Hid (Below w.heap.size w (wr.drew.setCells w.heap.size k (List.replicate m (.int .i64 d)))) := Lib.hid (below_setCells (Nat.le_refl _) _ _ _ _ HB.out.drew)
      have i1 : (0 : Int) ≤ (k : Int) := by omega
      have i2 : (k : Int) ≤ (N : Int) := by omega
      have i3 : (k : Int) < (N : Int) := by omega
      have i4 : (k : Int) + (m : Int) ≤ (N : Int) := by omega
      clear hm
      go_wp2_with fail
      go_region_held3 (fun _ => True) (first | trivial) (first | fail)
      all_goals
        go_wp2_with fail
        have hw : IntKind.i64.wrap ((k : Int) + (m : Int)) = ((k + m : Nat) : Int) := by rw [IntKind.wrap_i64]; omega
        obtain ⟨l', h1, h2⟩ := R2.out
        rw [hw]
        exact ⟨⟨k + m, l', by omega, by omega, rfl, (show Hid _ from h1), (show Hid _ from h2), B2⟩, by simp only [intOf]; omega⟩
    · obtain rfl : k = N := by omega
      have HF : Hid (Rw wr w.heap.size k (List.replicate k d)) := Lib.hid ⟨List.length_replicate, fun t ht => by rw [show (List.replicate k d).getD t 0 = l.getD t 0 by rw [HL.out t ht]; simp [List.getD, ht]]; exact RW.out.2 t ht⟩
      go_wp2_with fail
      go_ret
      exact ⟨rfl, HF.out, HB.out⟩
end Go.Proofs.Ytijjagnlfhiogaa
