/-
  What the document's answer of layer 10 says: where a name is bound first.
-/
import Derived.Test.YtkmehhhgdeiaeaaDoorLaw10NamesG
namespace Go.Proofs.YtkmehhhgdeiaeaaDoor
open Go.RowKit
open PCheck (Bd bound)

/-- The place of the first binding of a name, or -1. -/
def FindP (l : List Bd) (n : List UInt8) (z : Int) : Prop := (z = -1 ∧ bound l n = none) ∨ ∃ i : Nat, ∃ h : i < l.length, z = i ∧ bound l n = some (PCheck.oneOf (l[i]'h).kind [1, 2, 3, 4])
set_option maxHeartbeats 3200000 in
set_option maxRecDepth 100000 in
theorem rfind_any {w : World} {A : Option Addr} {n c : Nat} {l : List Bd} {s : List UInt8} (hl : SlX bdR w A n l) (hn : n ≤ 1000) :
    Calls Tryd.prog 23 #[.slice A n c, .string ⟨s.toArray⟩] w fun e w' => ∃ z, e = .returned (.int .i64 z) ∧ FindP l s z ∧ Below w.heap.size w w' := by
  have HL := Lib.hid hl
  have hll : l.length = n := hl.1
  clear hl
  go_enter Tryd.func23, Tryd.ntmps23
  go_wp2_with fail
  go_loopw [5] (fun q wx => ∃ k : Nat, k ≤ n ∧ q = .int .i64 k ∧ Hid (bound (l.take k) s = none) ∧ w = wx) (fun q _ => n - (intOf q).toNat)
  case atStart => exact ⟨0, Nat.zero_le _, rfl, Lib.hid rfl, rfl⟩
  case round =>
    obtain ⟨k, hk, rfl, I1, rfl⟩ := hrel
    by_cases hkn : k < n
    · have gk : (k : Int) < (n : Int) := by omega
      have hkl : k < l.length := by omega
      obtain ⟨⟨nm, kd⟩, hb⟩ : ∃ b : Bd, l[k] = b := ⟨_, rfl⟩
      obtain ⟨b, off, rfl, hc⟩ := HL.out.at hkn
      have hd := hc k hkl
      rw [hb] at hd
      have c0 : w.cell? ⟨b, off + k * 2, none⟩ = some (.string ⟨nm.toArray⟩) := by simpa [bdR] using hd 0 _ rfl
      have hsb := World.block_lt_of_cell? w _ c0
      clear hd hc
      by_cases hns : nm = s
      · have hbd := bound_at hkl I1.out (by rw [hb]; exact hns)
        have FIN : Hid (FindP l s k) := Lib.hid (.inr ⟨k, hkl, rfl, hbd⟩)
        subst hns
        clear hbd hb I1
        go_wp2_with fail
        go_ret
        exact ⟨_, rfl, FIN.out, Below.refl _ _⟩
      · have hne : (nm == s) = false := by rw [beq_eq_false_iff_ne]; exact hns
        have FIN : Hid (bound (l.take (k + 1)) s = none) := Lib.hid (bound_miss hkl I1.out (by rw [hb]; exact hns))
        clear hb I1 hns
        go_wp2_with fail
        exact ⟨⟨k + 1, by omega, by congr 1, FIN, trivial⟩, by simp [intOf]; omega⟩
    · obtain rfl : k = n := by omega
      have hbd : bound l s = none := by have h := I1.out; rw [List.take_of_length_le (by omega)] at h; exact h
      have FIN : Hid (FindP l s (-1)) := Lib.hid (.inl ⟨rfl, hbd⟩)
      clear hbd I1
      go_wp2_with fail
      go_ret
      exact ⟨_, rfl, FIN.out, Below.refl _ _⟩
end Go.Proofs.YtkmehhhgdeiaeaaDoor
