/-
  What the reference's Of answers: a number's sign and digits.
-/
import Derived.Test.YtmmgejgmlhhfdaaRef02Less
namespace Go.Proofs.Ytmmgejgmlhhfdaa
open Go.RowKit

/-- What Of knows: the digits told so far, and those that are left. -/
def OfInv (w wr : World) (N m : Nat) (v : Value) : Prop :=
  ∃ k o, PDigs.digs N = o ++ PDigs.digs m ∧ o.length = k ∧ k ≤ 100 ∧ wr.ownsRow (w.heap.size + 2) 3 1 v k (cellsOfInts o) ∧ Below w.heap.size w wr ∧ w.heap.size + 2 ≤ wr.heap.size
/-- A call that answers a Big. -/
def BigR (mi : Bool) (z : Nat) (w : World) (e : Ending) (w' : World) : Prop := ∃ A n cap, e = .returned (.agg #[.bool mi, .slice A n cap]) ∧ Num w' A n cap z ∧ Below w.heap.size w w'

theorem of_step {w wr w1 : World} {N m : Nat} {v' : Value} {k : Nat} {o : List Int} (hm : m ≠ 0) (hd : PDigs.digs N = o ++ PDigs.digs m) (ho : o.length = k) (hk : k + 1 ≤ 100)
    (hown : w1.ownsRow (w.heap.size + 2) 3 1 v' (k + 1) (cellsOfInts (o ++ [((m % 10 : Nat) : Int)]))) (hb : Below w.heap.size w wr) (hs : w.heap.size + 2 ≤ wr.heap.size) (hb1 : Below (w.heap.size + 2) wr w1) :
    OfInv w (w1.setCell ⟨w.heap.size + 1, 1, none⟩ v') N (m / 10) v' :=
  ⟨k + 1, o ++ [((m % 10 : Nat) : Int)], by rw [hd, PDigs.digs_pos hm]; simp, by simp [ho], hk, ownsRow_setCell_below hown (by simp) v',
    ((hb.trans (hb1.mono (by omega))).setCell (by simp) v'), by have := hb1.size; simp [World.setCell]; omega⟩
theorem front_dig {N m : Nat} {o : List Int} (h : PDigs.digs N = o ++ PDigs.digs m) : PDigs.Dig o := fun d hd => PDigs.digs_dig N d (by rw [h]; exact List.mem_append_left _ hd)
theorem digs_front {N m : Nat} {o : List Int} (h : PDigs.digs N = o ++ PDigs.digs m) (hm : m ≠ 0) (hN : N < 10 ^ 100) : o.length + 1 ≤ 100 := by
  have h1 := PDigs.digs_len_bound hN
  rw [h, List.length_append] at h1
  have : (PDigs.digs m).length ≠ 0 := fun e => hm (PDigs.digs_eq_nil.1 (List.eq_nil_of_length_eq_zero e))
  omega

theorem of_end {w wr : World} {N k cap : Nat} {A : Option Addr} {o : List Int} {mi : Bool} (hown : wr.ownsRow (w.heap.size + 2) 3 1 (.slice A k cap) k (cellsOfInts o)) (hz : PDigs.digs N = o) (hk : k ≤ 1000) (hb : Below w.heap.size w wr) :
    BigR mi N w (.returned (.agg #[.bool mi, .slice A k cap])) ((wr.setCell ⟨w.heap.size, 0, none⟩ (.bool mi)).setCell ⟨w.heap.size, 1, none⟩ (.slice A k cap)) := by
  have h1 := ownsRow_setCell_below (ownsRow_setCell_below hown (a := ⟨w.heap.size, 0, none⟩) (by simp) (.bool mi)) (a := ⟨w.heap.size, 1, none⟩) (by simp) (.slice A k cap)
  obtain ⟨A', cap', e, a1, a2, a3, a4⟩ := sl_of_own h1 (dig_in64 (by rw [← hz]; exact PDigs.digs_dig N)) (by omega)
  injection e with e1 e2 e3
  subst e1 e3
  exact ⟨A, k, cap, rfl, ⟨a1, a2, a3, by rw [hz]; exact a4⟩, (hb.setCell (Nat.le_refl _) _).setCell (Nat.le_refl _) _⟩

set_option maxHeartbeats 3200000 in
set_option maxRecDepth 100000 in
theorem of_pos (n : Nat) (w : World) (h1 : n ≤ 9223372036854775807) :
    Calls Try.prog 43 #[.int .i64 n] w (BigR false n w) := by
  have hneg : decide ((n : Int) < 0) = false := by simp
  have HN : Hid (n < 10 ^ 100) := Lib.hid (Nat.lt_of_le_of_lt h1 (by decide))
  go_enter Try.func43, Try.ntmps43
  go_wp2_with fail
  go_loopw [0] (fun x wr => ∃ (m : Nat) (v : Value), m ≤ n ∧ x = .int .i64 m ∧ wr.cell? ⟨w.heap.size, 0, none⟩ = some (.bool false) ∧ wr.cell? ⟨w.heap.size, 1, none⟩ = some (.slice none 0 0) ∧ wr.frozen? ⟨w.heap.size, 0, none⟩ = false ∧ wr.frozen? ⟨w.heap.size, 1, none⟩ = false ∧
      wr.cell? ⟨w.heap.size + 1, 0, none⟩ = some (.bool false) ∧ wr.cell? ⟨w.heap.size + 1, 1, none⟩ = some v ∧ wr.frozen? ⟨w.heap.size + 1, 1, none⟩ = false ∧ OfInv w wr n m v) (fun x _ => (intOf x).toNat)
  case atStart =>
    refine ⟨n, .slice none 0 0, Nat.le_refl _, rfl, ?_, ?_, ?_, ?_, ?_, ?_, ?_, ⟨0, [], rfl, rfl, by omega, World.ownsRow_nil _ _ _ _, ?_, ?_⟩⟩
    all_goals first | exact ((Below.refl _ _).alloc (Nat.le_refl _) _).alloc (by simp) _ | (simp; done)
  case round =>
    obtain ⟨m, v, hmn, rfl, r0, r1, f0, f1, c0, c1, g1, hinv⟩ := hrel
    obtain ⟨k, o, hdg, hok, hk, hown, hb, hsz⟩ := hinv
    have HD := Lib.hid hdg; have HOK := Lib.hid hok; have HO := Lib.hid hown
    clear hdg hok hown
    obtain ⟨A, cap, rfl, a1, a2, a3, a4⟩ := sl_of_own HO.out (dig_in64 (front_dig HD.out)) (by omega)
    have HSL := Lib.hid a4; have HAN := Lib.hid a1; clear a4 a1
    by_cases hm : m = 0
    · subst hm
      have hb0 : (((0 : Nat) : Int) != 0) = false := rfl
      have HZ : Hid (PDigs.digs n = o) := Lib.hid (by have := HD.out; rwa [PDigs.digs_zero, List.append_nil] at this)
      go_wp2_with fail
      refine bodyPost_ret (v := .agg #[.bool false, .slice A k cap]) (by simp [results, Try.results43, go_sem, r0, r1]) rfl ?_
      exact of_end HO.out HZ.out (by omega) hb
    · have hb0 : ((m : Int) != 0) = true := by rw [bne_iff_ne]; omega
      obtain ⟨d, hd⟩ : ∃ d : Int, (m : Int) % 10 = d := ⟨_, rfl⟩
      have d0 : 0 ≤ d := by omega
      have d9 : d ≤ 9 := by omega
      have HDD : Hid (((m % 10 : Nat) : Int) = d) := Lib.hid (by omega)
      have HKK := Lib.hid (digs_front HD.out hm HN.out)
      go_wp2_with (at_builtin; refine append_one rfl _ _ rfl (w.heap.size + 2) (.slice A k cap) k o d (by rfl) HO.out (by rfl) (by omega) hsz ?_)
      intro v' w1 hown' hb'
      obtain ⟨A', cap', rfl, -, -, -, -⟩ := sl_of_own hown' (dig_in64 (fun z hz => by
        rcases List.mem_append.1 hz with hz | hz
        · exact front_dig HD.out z hz
        · rw [List.mem_singleton] at hz; omega)) (by omega)
      rw [← HDD.out] at hown'
      have HI := Lib.hid (of_step hm HD.out HOK.out (by rw [← HOK.out]; exact HKK.out) hown' hb hsz hb')
      have hsz1 := hb'.size
      have e0 := (hb'.cell (p := ⟨w.heap.size, 0, none⟩) (by simp)).trans r0
      have e1 := (hb'.cell (p := ⟨w.heap.size, 1, none⟩) (by simp)).trans r1
      have e2 := (hb'.frozen (p := ⟨w.heap.size, 0, none⟩) (by simp)).trans f0
      have e3 := (hb'.frozen (p := ⟨w.heap.size, 1, none⟩) (by simp)).trans f1
      have e4 := (hb'.cell (p := ⟨w.heap.size + 1, 0, none⟩) (by simp)).trans c0
      have e5 := (hb'.cell (p := ⟨w.heap.size + 1, 1, none⟩) (by simp)).trans c1
      have e6 := (hb'.frozen (p := ⟨w.heap.size + 1, 1, none⟩) (by simp)).trans g1
      clear r0 r1 f0 f1 c0 c1 g1 hown'
      go_wp2_with fail
      refine ⟨⟨m / 10, _, by omega, by congr 1, ?_, ?_, ?_, ?_, ?_, ?_, ?_, HI.out⟩, by simp [intOf]; omega⟩
      all_goals first | (rw [World.cell?_setCell_other _ _ _ _ (by simp)]; assumption) | (go_simp; done) | (simp [*]; done) | trace_state
set_option maxHeartbeats 3200000 in
set_option maxRecDepth 100000 in
theorem of_neg (n : Nat) (w : World) (h0 : 0 < n) (h1 : n ≤ 9223372036854775808) :
    Calls Try.prog 43 #[.int .i64 (-(n : Int))] w (BigR true n w) := by
  obtain ⟨y, hy⟩ : ∃ y : Int, -(n : Int) = y := ⟨_, rfl⟩
  have hneg : y < 0 := by omega
  have hylo : -9223372036854775808 ≤ y := by omega
  rw [hy]
  have HYY := Lib.hid hy; clear hy
  have HN : Hid (n < 10 ^ 100) := Lib.hid (Nat.lt_of_le_of_lt h1 (by decide))
  go_enter Try.func43, Try.ntmps43
  go_wp2_with fail
  go_loopw [0] (fun x wr => ∃ (m : Nat) (z : Int) (v : Value), m ≤ n ∧ x = .int .i64 z ∧ z = -(m : Int) ∧ wr.cell? ⟨w.heap.size, 0, none⟩ = some (.bool false) ∧ wr.cell? ⟨w.heap.size, 1, none⟩ = some (.slice none 0 0) ∧ wr.frozen? ⟨w.heap.size, 0, none⟩ = false ∧ wr.frozen? ⟨w.heap.size, 1, none⟩ = false ∧
      wr.cell? ⟨w.heap.size + 1, 0, none⟩ = some (.bool true) ∧ wr.cell? ⟨w.heap.size + 1, 1, none⟩ = some v ∧ wr.frozen? ⟨w.heap.size + 1, 1, none⟩ = false ∧ OfInv w wr n m v) (fun x _ => (intOf x).natAbs)
  case atStart =>
    refine ⟨n, y, .slice none 0 0, Nat.le_refl _, rfl, HYY.out.symm, ?_, ?_, ?_, ?_, ?_, ?_, ?_, ⟨0, [], rfl, rfl, by omega, World.ownsRow_nil _ _ _ _, ?_, ?_⟩⟩
    all_goals first | exact ((Below.refl _ _).alloc (Nat.le_refl _) _).alloc (by simp) _ | (simp; done)
  case round =>
    obtain ⟨m, z, v, hmn, rfl, hzm, r0, r1, f0, f1, c0, c1, g1, hinv⟩ := hrel
    obtain ⟨k, o, hdg, hok, hk, hown, hb, hsz⟩ := hinv
    have HD := Lib.hid hdg; have HOK := Lib.hid hok; have HO := Lib.hid hown
    clear hdg hok hown
    obtain ⟨A, cap, rfl, a1, a2, a3, a4⟩ := sl_of_own HO.out (dig_in64 (front_dig HD.out)) (by omega)
    have HSL := Lib.hid a4; have HAN := Lib.hid a1; clear a4 a1
    by_cases hm : m = 0
    · subst hm
      obtain rfl : z = 0 := by omega
      clear hzm
      have HZ : Hid (PDigs.digs n = o) := Lib.hid (by have := HD.out; rwa [PDigs.digs_zero, List.append_nil] at this)
      go_wp2_with fail
      refine bodyPost_ret (v := .agg #[.bool true, .slice A k cap]) (by simp [results, Try.results43, go_sem, r0, r1]) rfl ?_
      exact of_end HO.out HZ.out (by omega) hb
    · have hb0 : (z != 0) = true := by rw [bne_iff_ne]; omega
      have hz0 : z < 0 := by omega
      have hzl : -9223372036854775808 ≤ z := by omega
      obtain ⟨e, he⟩ : ∃ e : Int, z.tmod 10 = e := ⟨_, rfl⟩
      obtain ⟨f, hf⟩ : ∃ f : Int, z.tdiv 10 = f := ⟨_, rfl⟩
      have hem : e = -((m % 10 : Nat) : Int) := by rw [← he, hzm, Int.neg_tmod, Int.tmod_eq_emod_of_nonneg (by omega)]; omega
      have hfm : f = -((m / 10 : Nat) : Int) := by rw [← hf, hzm, Int.neg_tdiv, Int.tdiv_eq_ediv_of_nonneg (by omega)]; omega
      have HE := Lib.hid hem; have HF := Lib.hid hfm; have HZM := Lib.hid hzm
      have e1' : e ≤ 0 := by omega
      have e2' : -9 ≤ e := by omega
      have f1' : f ≤ 0 := by omega
      have f2' : z ≤ f := by omega
      obtain ⟨d, hd⟩ : ∃ d : Int, -e = d := ⟨_, rfl⟩
      have d0 : 0 ≤ d := by omega
      have d9 : d ≤ 9 := by omega
      have HDD : Hid (((m % 10 : Nat) : Int) = d) := Lib.hid (by omega)
      clear hem hfm hzm
      have HKK := Lib.hid (digs_front HD.out hm HN.out)
      by_cases hen : e < 0
      · go_wp2_with (at_builtin; refine append_one rfl _ _ rfl (w.heap.size + 2) (.slice A k cap) k o d (by rfl) HO.out (by rfl) (by omega) hsz ?_)
        intro v' w1 hown' hb'
        obtain ⟨A', cap', rfl, -, -, -, -⟩ := sl_of_own hown' (dig_in64 (fun z hz => by
          rcases List.mem_append.1 hz with hz | hz
          · exact front_dig HD.out z hz
          · rw [List.mem_singleton] at hz; omega)) (by omega)
        rw [← HDD.out] at hown'
        have HI := Lib.hid (of_step hm HD.out HOK.out (by rw [← HOK.out]; exact HKK.out) hown' hb hsz hb')
        have hsz1 := hb'.size
        have e0 := (hb'.cell (p := ⟨w.heap.size, 0, none⟩) (by simp)).trans r0
        have e1 := (hb'.cell (p := ⟨w.heap.size, 1, none⟩) (by simp)).trans r1
        have e2 := (hb'.frozen (p := ⟨w.heap.size, 0, none⟩) (by simp)).trans f0
        have e3 := (hb'.frozen (p := ⟨w.heap.size, 1, none⟩) (by simp)).trans f1
        have e4 := (hb'.cell (p := ⟨w.heap.size + 1, 0, none⟩) (by simp)).trans c0
        have e5 := (hb'.cell (p := ⟨w.heap.size + 1, 1, none⟩) (by simp)).trans c1
        have e6 := (hb'.frozen (p := ⟨w.heap.size + 1, 1, none⟩) (by simp)).trans g1
        clear r0 r1 f0 f1 c0 c1 g1 hown'
        go_wp2_with fail
        refine ⟨⟨m / 10, f, _, by omega, rfl, HF.out, ?_, ?_, ?_, ?_, ?_, ?_, ?_, HI.out⟩, by have := HF.out; have := HZM.out; simp only [intOf]; omega⟩
        all_goals first | (rw [World.cell?_setCell_other _ _ _ _ (by simp)]; assumption) | (go_simp; done) | (simp [*]; done) | trace_state
      · obtain rfl : e = 0 := by omega
        have hd0 : d = 0 := by omega
        subst hd0
        clear hd
        go_wp2_with (at_builtin; refine append_one rfl _ _ rfl (w.heap.size + 2) (.slice A k cap) k o 0 (by rfl) HO.out (by rfl) (by omega) hsz ?_)
        intro v' w1 hown' hb'
        obtain ⟨A', cap', rfl, -, -, -, -⟩ := sl_of_own hown' (dig_in64 (fun z hz => by
          rcases List.mem_append.1 hz with hz | hz
          · exact front_dig HD.out z hz
          · rw [List.mem_singleton] at hz; omega)) (by omega)
        rw [← HDD.out] at hown'
        have HI := Lib.hid (of_step hm HD.out HOK.out (by rw [← HOK.out]; exact HKK.out) hown' hb hsz hb')
        have hsz1 := hb'.size
        have e0 := (hb'.cell (p := ⟨w.heap.size, 0, none⟩) (by simp)).trans r0
        have e1 := (hb'.cell (p := ⟨w.heap.size, 1, none⟩) (by simp)).trans r1
        have e2 := (hb'.frozen (p := ⟨w.heap.size, 0, none⟩) (by simp)).trans f0
        have e3 := (hb'.frozen (p := ⟨w.heap.size, 1, none⟩) (by simp)).trans f1
        have e4 := (hb'.cell (p := ⟨w.heap.size + 1, 0, none⟩) (by simp)).trans c0
        have e5 := (hb'.cell (p := ⟨w.heap.size + 1, 1, none⟩) (by simp)).trans c1
        have e6 := (hb'.frozen (p := ⟨w.heap.size + 1, 1, none⟩) (by simp)).trans g1
        clear r0 r1 f0 f1 c0 c1 g1 hown'
        go_wp2_with fail
        refine ⟨⟨m / 10, f, _, by omega, rfl, HF.out, ?_, ?_, ?_, ?_, ?_, ?_, ?_, HI.out⟩, by have := HF.out; have := HZM.out; simp only [intOf]; omega⟩
        all_goals first | (rw [World.cell?_setCell_other _ _ _ _ (by simp)]; assumption) | (go_simp; done) | (simp [*]; done) | trace_state

theorem of_any (n : Int) (w : World) (h0 : -9223372036854775808 ≤ n) (h1 : n ≤ 9223372036854775807) :
    Calls Try.prog 43 #[.int .i64 n] w (BigR (decide (n < 0)) n.natAbs w) := by
  by_cases hn : n < 0
  · have := of_neg n.natAbs w (by omega) (by omega)
    rw [show -((n.natAbs : Nat) : Int) = n by omega] at this
    rw [show decide (n < 0) = true by simpa using hn]
    exact this
  · have := of_pos n.natAbs w (by omega)
    rw [show ((n.natAbs : Nat) : Int) = n by omega] at this
    rw [show decide (n < 0) = false by simpa using hn]
    exact this
end Go.Proofs.Ytmmgejgmlhhfdaa
