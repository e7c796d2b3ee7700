/-
  What the landed reader answers of one token: whether it is a word of a kind, a name, a sign that compares, an expression by itself.
-/
import Derived.Test.YtpakepapjnakgaaDoorPM
import Derived.Test.YtpakepapjnakgaaDoorTreeRdG
import Derived.Test.YtpakepapjnakgaaDoorShelf
import Derived.Test.YtpakepapjnakgaaDoorRateParseG
import Derived.Test.YtpakepapjnakgaaDoorMoneyParseG
import Derived.Lib.AtoiErrMem

namespace Go.Proofs.YtpakepapjnakgaaDoor
open Go.RowKit
open PTree (Ex Tr tx kd pl)

theorem bq {u : ByteArray} {l : List UInt8} (h : u.data.toList = l) : (u.toList == l) = true := by rw [beq_iff_eq, ByteArray.toList_eq]; exact h
theorem bn {u : ByteArray} {l : List UInt8} (h : u.data.toList ≠ l) : (u.toList == l) = false := by rw [beq_eq_false_iff_ne, ByteArray.toList_eq]; exact h
set_option maxHeartbeats 1600000 in
theorem isrk_any (u : ByteArray) (w : World) : Calls Tryd.prog 28 #[.string u] w fun e w' => e = .returned (.bool (decide (u.data.toList ∈ PTree.kinds))) ∧ w = w' := by
  by_cases h1 : u.data.toList = [101, 97, 114, 110]
  · rw [h1]; have g1 := bq h1; clear h1
    go_enter Tryd.func28, Tryd.ntmps28
    go_wp2_with fail
    go_ret
    exact ⟨rfl, rfl⟩
  by_cases h2 : u.data.toList = [112, 114, 101, 116, 97, 120]
  · rw [h2]; have g1 := bn h1; have g2 := bq h2; clear h1 h2
    go_enter Tryd.func28, Tryd.ntmps28
    go_wp2_with fail
    go_ret
    exact ⟨rfl, rfl⟩
  by_cases h3 : u.data.toList = [112, 111, 115, 116]
  · rw [h3]; have g1 := bn h1; have g2 := bn h2; have g3 := bq h3; clear h1 h2 h3
    go_enter Tryd.func28, Tryd.ntmps28
    go_wp2_with fail
    go_ret
    exact ⟨rfl, rfl⟩
  by_cases h4 : u.data.toList = [108, 101, 116]
  · rw [h4]; have g1 := bn h1; have g2 := bn h2; have g3 := bn h3; have g4 := bq h4; clear h1 h2 h3 h4
    go_enter Tryd.func28, Tryd.ntmps28
    go_wp2_with fail
    go_ret
    exact ⟨rfl, rfl⟩
  have hf : decide (u.data.toList ∈ PTree.kinds) = false := decide_eq_false (by simp [PTree.kinds]; exact ⟨by simpa using h1, by simpa using h2, by simpa using h3, by simpa using h4⟩)
  have HF := Lib.hid hf
  have g1 := bn h1; have g2 := bn h2; have g3 := bn h3; have g4 := bn h4
  clear h1 h2 h3 h4 hf
  go_enter Tryd.func28, Tryd.ntmps28
  go_wp2_with fail
  go_ret
  exact ⟨by rw [HF.out]; rfl, rfl⟩

set_option maxHeartbeats 3200000 in
theorem isname_any (k : Nat) (u : ByteArray) (at_ : Int) (w : World) : Calls Tryd.prog 30 #[.agg #[.int .i64 k, .string u, .int .i64 at_]] w fun e w' => e = .returned (.bool (decide (k = 1 ∧ u.data.toList ∉ PTree.takenL))) ∧ Below w.heap.size w w' := by
  by_cases hk : k = 1
  · have ek : ((k : Int) != 1) = false := by rw [hk]; rfl
    by_cases hr : u.data.toList ∈ PTree.kinds
    · have HR := Lib.hid (fun w => isrk_any u w)
      rw [decide_eq_true hr] at HR
      have hf : decide (k = 1 ∧ u.data.toList ∉ PTree.takenL) = false := decide_eq_false (fun h => h.2 (by
        simp only [PTree.kinds, PTree.takenL, List.mem_cons, List.not_mem_nil, or_false] at hr ⊢
        rcases hr with h | h | h | h <;> simp [h]))
      have HF := Lib.hid hf
      clear hk hr hf
      go_enter Tryd.func30, Tryd.ntmps30
      go_wp2_with fail
      refine (HR.out _).mono ?_
      rintro _ _ ⟨rfl, rfl⟩
      go_wp2_with fail
      go_ret
      exact ⟨by rw [HF.out]; rfl, (Below.refl _ _).alloc (Nat.le_refl _) _⟩
    · have HR := Lib.hid (fun w => isrk_any u w)
      rw [decide_eq_false hr] at HR
      have tail : ∀ (b : Bool), decide (k = 1 ∧ u.data.toList ∉ PTree.takenL) = b → b = true ∨ b = false := fun b _ => by cases b <;> simp
      by_cases h1 : u.data.toList = [105, 102]
      · have HF : Hid (decide (k = 1 ∧ u.data.toList ∉ PTree.takenL) = false) := Lib.hid (decide_eq_false (fun h => h.2 (by rw [h1]; decide)))
        have g1 := bq h1; clear h1 hk hr tail
        go_enter Tryd.func30, Tryd.ntmps30
        go_wp2_with fail
        refine (HR.out _).mono ?_
        rintro _ _ ⟨rfl, rfl⟩
        go_wp2_with fail
        go_ret
        exact ⟨by rw [HF.out]; rfl, (Below.refl _ _).alloc (Nat.le_refl _) _⟩
      by_cases h2 : u.data.toList = [116, 104, 101, 110]
      · have HF : Hid (decide (k = 1 ∧ u.data.toList ∉ PTree.takenL) = false) := Lib.hid (decide_eq_false (fun h => h.2 (by rw [h2]; decide)))
        have g1 := bn h1; have g2 := bq h2; clear h1 h2 hk hr tail
        go_enter Tryd.func30, Tryd.ntmps30
        go_wp2_with fail
        refine (HR.out _).mono ?_
        rintro _ _ ⟨rfl, rfl⟩
        go_wp2_with fail
        go_ret
        exact ⟨by rw [HF.out]; rfl, (Below.refl _ _).alloc (Nat.le_refl _) _⟩
      by_cases h3 : u.data.toList = [101, 108, 115, 101]
      · have HF : Hid (decide (k = 1 ∧ u.data.toList ∉ PTree.takenL) = false) := Lib.hid (decide_eq_false (fun h => h.2 (by rw [h3]; decide)))
        have g1 := bn h1; have g2 := bn h2; have g3 := bq h3; clear h1 h2 h3 hk hr tail
        go_enter Tryd.func30, Tryd.ntmps30
        go_wp2_with fail
        refine (HR.out _).mono ?_
        rintro _ _ ⟨rfl, rfl⟩
        go_wp2_with fail
        go_ret
        exact ⟨by rw [HF.out]; rfl, (Below.refl _ _).alloc (Nat.le_refl _) _⟩
      by_cases h4 : u.data.toList = [109, 105, 110]
      · have HF : Hid (decide (k = 1 ∧ u.data.toList ∉ PTree.takenL) = false) := Lib.hid (decide_eq_false (fun h => h.2 (by rw [h4]; decide)))
        have g1 := bn h1; have g2 := bn h2; have g3 := bn h3; have g4 := bq h4; clear h1 h2 h3 h4 hk hr tail
        go_enter Tryd.func30, Tryd.ntmps30
        go_wp2_with fail
        refine (HR.out _).mono ?_
        rintro _ _ ⟨rfl, rfl⟩
        go_wp2_with fail
        go_ret
        exact ⟨by rw [HF.out]; rfl, (Below.refl _ _).alloc (Nat.le_refl _) _⟩
      by_cases h5 : u.data.toList = [109, 97, 120]
      · have HF : Hid (decide (k = 1 ∧ u.data.toList ∉ PTree.takenL) = false) := Lib.hid (decide_eq_false (fun h => h.2 (by rw [h5]; decide)))
        have g1 := bn h1; have g2 := bn h2; have g3 := bn h3; have g4 := bn h4; have g5 := bq h5; clear h1 h2 h3 h4 h5 hk hr tail
        go_enter Tryd.func30, Tryd.ntmps30
        go_wp2_with fail
        refine (HR.out _).mono ?_
        rintro _ _ ⟨rfl, rfl⟩
        go_wp2_with fail
        go_ret
        exact ⟨by rw [HF.out]; rfl, (Below.refl _ _).alloc (Nat.le_refl _) _⟩
      have HF : Hid (decide (k = 1 ∧ u.data.toList ∉ PTree.takenL) = true) := Lib.hid (decide_eq_true ⟨hk, fun h => by
        simp only [PTree.kinds, PTree.takenL, List.mem_cons, List.not_mem_nil, or_false] at hr h
        rcases h with h | h | h | h | h | h | h | h | h <;> first | exact h1 h | exact h2 h | exact h3 h | exact h4 h | exact h5 h | exact hr (by simp [h])⟩)
      have g1 := bn h1; have g2 := bn h2; have g3 := bn h3; have g4 := bn h4; have g5 := bn h5; clear h1 h2 h3 h4 h5 hk hr tail
      go_enter Tryd.func30, Tryd.ntmps30
      go_wp2_with fail
      refine (HR.out _).mono ?_
      rintro _ _ ⟨rfl, rfl⟩
      go_wp2_with fail
      go_ret
      exact ⟨by rw [HF.out]; rfl, (Below.refl _ _).alloc (Nat.le_refl _) _⟩
  · have ek : ((k : Int) != 1) = true := by rw [bne_iff_ne]; omega
    have HF : Hid (decide (k = 1 ∧ u.data.toList ∉ PTree.takenL) = false) := Lib.hid (decide_eq_false (fun h => hk h.1))
    clear hk
    go_enter Tryd.func30, Tryd.ntmps30
    go_wp2_with fail
    go_ret
    exact ⟨by rw [HF.out]; rfl, (Below.refl _ _).alloc (Nat.le_refl _) _⟩
set_option maxHeartbeats 3200000 in
theorem cmp_any (u : ByteArray) (w : World) : Calls Tryd.prog 49 #[.string u] w fun e w' => e = .returned (.bool (decide (u.data.toList ∈ PTree.level 0))) ∧ w = w' := by
  by_cases h1 : u.data.toList = [60]
  · rw [h1]; have g1 := bq h1; clear h1
    go_enter Tryd.func49, Tryd.ntmps49
    go_wp2_with fail
    go_ret
    exact ⟨rfl, rfl⟩
  have g1 := bn h1
  by_cases h2 : u.data.toList = [60, 61]
  · rw [h2]; have g2 := bq h2; clear h1 h2
    go_enter Tryd.func49, Tryd.ntmps49
    go_wp2_with fail
    go_ret
    exact ⟨rfl, rfl⟩
  have g2 := bn h2
  by_cases h3 : u.data.toList = [61]
  · rw [h3]; have g3 := bq h3; clear h1 h2 h3
    go_enter Tryd.func49, Tryd.ntmps49
    go_wp2_with fail
    go_ret
    exact ⟨rfl, rfl⟩
  have g3 := bn h3
  by_cases h4 : u.data.toList = [60, 62]
  · rw [h4]; have g4 := bq h4; clear h1 h2 h3 h4
    go_enter Tryd.func49, Tryd.ntmps49
    go_wp2_with fail
    go_ret
    exact ⟨rfl, rfl⟩
  have g4 := bn h4
  by_cases h5 : u.data.toList = [62]
  · rw [h5]; have g5 := bq h5; clear h1 h2 h3 h4 h5
    go_enter Tryd.func49, Tryd.ntmps49
    go_wp2_with fail
    go_ret
    exact ⟨rfl, rfl⟩
  have g5 := bn h5
  by_cases h6 : u.data.toList = [62, 61]
  · rw [h6]; have g6 := bq h6; clear h1 h2 h3 h4 h5 h6
    go_enter Tryd.func49, Tryd.ntmps49
    go_wp2_with fail
    go_ret
    exact ⟨rfl, rfl⟩
  have g6 := bn h6
  have HF : Hid (decide (u.data.toList ∈ PTree.level 0) = false) := Lib.hid (decide_eq_false (fun h => by
    simp only [PTree.level, List.mem_cons, List.not_mem_nil, or_false] at h
    rcases h with h | h | h | h | h | h <;> first | exact h1 h | exact h2 h | exact h3 h | exact h4 h | exact h5 h | exact h6 h))
  clear h1 h2 h3 h4 h5 h6
  go_enter Tryd.func49, Tryd.ntmps49
  go_wp2_with fail
  go_ret
  exact ⟨by rw [HF.out]; rfl, rfl⟩
end Go.Proofs.YtpakepapjnakgaaDoor
