/-
  Small: a program that is small has few rows, and short words.
-/
import Derived.Test.YtkmehhhgdeiaeaaDoorLaw10RefG
namespace Go.Proofs.YtkmehhhgdeiaeaaDoor
open Go.RowKit
open PCheck (Xp)

/-- What is answered: some flag; where it is true, rows are few and words short. -/
def SmAns (rows : List Rl10) (exs : List Xp) (w : World) (e : Ending) (w' : World) : Prop := ∃ b : Bool, e = .returned (.bool b) ∧ (b = true → exs.length ≤ 300 ∧ rows.length ≤ 70 ∧ ∀ x ∈ exs, x.name.length ≤ 30) ∧ Below w.heap.size w w'
set_option maxRecDepth 100000 in
set_option maxHeartbeats 6400000 in
theorem small_any {w : World} {A B : Option Addr} {n m ca cb : Nat} {rows : List Rl10} {exs : List Xp} (hA : SlX rlR w A n rows) (hB : SlX xpR w B m exs) (hs : ∀ x ∈ exs, x.name.length ≤ maxLen ∧ x.op.length ≤ maxLen) (hs2 : ∀ x ∈ rows, x.name.length ≤ maxLen ∧ x.kind.length ≤ maxLen) :
    Calls Tryd.prog 9 #[.agg #[.slice A n ca, .slice B m cb]] w (SmAns rows exs w) := by
  obtain ⟨Q, hQ⟩ : ∃ Q, SmAns rows exs w = Q := ⟨_, rfl⟩
  rw [hQ]
  have HQ := Lib.hid hQ
  obtain ⟨w1, hw1, XB, b1⟩ : ∃ w1, w.alloc (.cells #[.slice A n ca, .slice B m cb] 31) = w1 ∧ Box w1 w.heap.size [.slice A n ca, .slice B m cb] ∧ Below w.heap.size w w1 := ⟨_, rfl, Box.new _ _ [.slice A n ca, .slice B m cb], (Below.refl _ _).alloc (Nat.le_refl _) _⟩
  have HW1 := Lib.hid hw1; have B1 := Lib.hid b1
  have x0 : w1.cell? ⟨w.heap.size, 0, none⟩ = some (.slice A n ca) := XB.c 0 rfl
  have x1 : w1.cell? ⟨w.heap.size, 1, none⟩ = some (.slice B m cb) := XB.c 1 rfl
  have hsx := XB.1
  have HA := Lib.hid (hA.on b1); have HB := Lib.hid (hB.on b1)
  have hnA : rows.length = n := hA.1
  have hmB : exs.length = m := hB.1
  have HS := Lib.hid hs; have HS2 := Lib.hid hs2
  clear hw1 b1 XB hA hB hQ hs hs2
  have NO : Hid (∀ b, b = false → Q (.returned (.bool b)) w1) := Lib.hid (fun b hb => by rw [← HQ.out]; subst hb; exact ⟨false, rfl, (fun e => absurd e (by decide)), B1.out⟩)
  by_cases g1 : (300 : Int) < (m : Int)
  · go_enter Tryd.func9, Tryd.ntmps9
    go_upto_region 1 with fail
    rw [HW1.out]
    go_wp2_with fail
    exact NO.out _ rfl
  by_cases g2 : (70 : Int) < (n : Int)
  · go_enter Tryd.func9, Tryd.ntmps9
    go_upto_region 1 with fail
    rw [HW1.out]
    go_wp2_with fail
    exact NO.out _ rfl
  go_enter Tryd.func9, Tryd.ntmps9
  go_upto_region 1 with fail
  rw [HW1.out]
  clear HW1
  go_wp2_with fail
  go_loopw [3] (fun q wx => ∃ k : Nat, k ≤ m ∧ q = .int .i64 k ∧ Hid (∀ x ∈ exs.take k, x.name.length ≤ 30) ∧ w1 = wx) (fun q _ => m - (intOf q).toNat)
  case atStart => exact ⟨0, Nat.zero_le _, rfl, Lib.hid (fun x hx => by simp at hx), rfl⟩
  case round =>
    obtain ⟨k, hk, rfl, I1, rfl⟩ := hrel
    by_cases hkm : k < m
    · have gk : (k : Int) < (m : Int) := by omega
      have hkl : k < exs.length := by omega
      obtain ⟨x, hx⟩ : ∃ x, exs[k] = x := ⟨_, rfl⟩
      have hsz := HS.out x (by rw [← hx]; exact List.getElem_mem _)
      obtain ⟨b, off, rfl, hc⟩ := HB.out.at hkm
      have hd := hc k hkl
      rw [hx] at hd
      have c0 : w1.cell? ⟨b, off + k * 6, none⟩ = some (.string ⟨x.op.toArray⟩) := by simpa [xpR] using hd 0 _ rfl
      have c1 : w1.cell? ⟨b, off + k * 6 + 1, none⟩ = some (.string ⟨x.name.toArray⟩) := hd 1 _ rfl
      have hsb := World.block_lt_of_cell? w1 _ c0
      obtain ⟨h1, h2⟩ := hsz
      by_cases g3 : (30 : Int) < (x.name.length : Int)
      · clear hc hd
        go_wp2_with fail
        exact NO.out _ rfl
      by_cases g4 : (30 : Int) < (x.op.length : Int)
      · clear hc hd
        go_wp2_with fail
        exact NO.out _ rfl
      have FIN : Hid (∀ y ∈ exs.take (k + 1), y.name.length ≤ 30) := Lib.hid (fun y hy => by
        rw [List.take_succ_eq_append_getElem hkl, hx] at hy
        rcases List.mem_append.1 hy with hy | hy
        · exact I1.out y hy
        · rw [List.mem_singleton.1 hy]; omega)
      clear hc hd hx I1
      go_wp2_with fail
      exact ⟨⟨k + 1, by omega, by congr 1, FIN, trivial⟩, by simp [intOf]; omega⟩
    · obtain rfl : k = m := by omega
      have FI : Hid (∀ y ∈ exs, y.name.length ≤ 30) := Lib.hid (by have h := I1.out; rwa [List.take_of_length_le (by omega)] at h)
      clear I1
      go_wp2_with fail
      go_loopw [4] (fun q wx => ∃ j : Nat, j ≤ n ∧ q = .int .i64 j ∧ w1 = wx) (fun q _ => n - (intOf q).toNat)
      case atStart => exact ⟨0, Nat.zero_le _, rfl, rfl⟩
      case round =>
        obtain ⟨j, hj, rfl, rfl⟩ := hrel
        by_cases hjn : j < n
        · have gj : (j : Int) < (n : Int) := by omega
          have hjl : j < rows.length := by omega
          obtain ⟨x, hx⟩ : ∃ x, rows[j] = x := ⟨_, rfl⟩
          have hsz := HS2.out x (by rw [← hx]; exact List.getElem_mem _)
          obtain ⟨b, off, rfl, hc⟩ := HA.out.at hjn
          have hd := hc j hjl
          rw [hx] at hd
          have c0 : w1.cell? ⟨b, off + j * 3, none⟩ = some (.string ⟨x.kind.toArray⟩) := by simpa [rlR] using hd 0 _ rfl
          have c1 : w1.cell? ⟨b, off + j * 3 + 1, none⟩ = some (.string ⟨x.name.toArray⟩) := hd 1 _ rfl
          have hsb := World.block_lt_of_cell? w1 _ c0
          obtain ⟨h1, h2⟩ := hsz
          by_cases g3 : (30 : Int) < (x.name.length : Int)
          · clear hc hd
            go_wp2_with fail
            exact NO.out _ rfl
          by_cases g4 : (30 : Int) < (x.kind.length : Int)
          · clear hc hd
            go_wp2_with fail
            exact NO.out _ rfl
          clear hc hd hx
          go_wp2_with fail
          exact ⟨⟨j + 1, by omega, by congr 1, trivial⟩, by simp [intOf]; omega⟩
        · obtain rfl : j = n := by omega
          go_wp2_with fail
          rw [← HQ.out]
          exact ⟨true, rfl, fun _ => ⟨by omega, by omega, FI.out⟩, B1.out⟩
end Go.Proofs.YtkmehhhgdeiaeaaDoor
