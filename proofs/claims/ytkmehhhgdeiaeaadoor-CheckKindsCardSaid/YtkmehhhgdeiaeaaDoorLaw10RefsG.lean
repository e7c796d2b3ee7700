/-
  Bindings as the document's: the same rows.
-/
import Derived.Test.YtkmehhhgdeiaeaaDoorLaw10RefG
namespace Go.Proofs.YtkmehhhgdeiaeaaDoor
open Go.RowKit
open PCheck (Bd)

theorem doc_bdTy : RecTy bdR 70 39 24 where
  info := ⟨.agg #[.string ⟨#[]⟩, .int .i64 0], by kernel_rfl, by rfl⟩
  under := by kernel_rfl
  few := by decide
set_option maxRecDepth 100000 in
set_option maxHeartbeats 6400000 in
theorem trefs_any {w : World} {A : Option Addr} {n ca : Nat} {l : List Bd} (hA : SlX bdR w A n l) (hn : n ≤ 1000) :
    Calls Tryd.prog 14 #[.slice A n ca] w fun e w' => ∃ A' ca', e = .returned (.slice A' n ca') ∧ SlX bdR w' A' n l ∧ (A' = none → ca' = 0) ∧ Below w.heap.size w w' := by
  have HA := Lib.hid hA
  have hll : l.length = n := hA.1
  have gn : (n : Int) ≤ 1000 := by omega
  clear hA
  obtain ⟨L, hL⟩ : ∃ L, w.heap.size = L := ⟨_, rfl⟩
  rw [hL]
  have HL := Lib.hid hL
  clear hL
  go_enter Tryd.func14, Tryd.ntmps14
  go_wp2_with fail
  go_loopw [3, 8] (fun x i wr => ∃ (k : Nat) (v : Value), k ≤ n ∧ v = x ∧ i = .int .i64 k ∧ Hid (wr.ownsRow L 70 2 v k (bdR.cells (l.take k))) ∧ Hid (Below L w wr)) (fun _ i _ => n - (intOf i).toNat)
  case atStart => exact ⟨0, .slice none 0 0, Nat.zero_le _, rfl, rfl, Lib.hid (World.ownsRow_nil _ _ _ _), Lib.hid (by rw [← HL.out]; exact Below.refl _ _)⟩
  case round =>
    obtain ⟨k, v, hk, rfl, rfl, I1, I2⟩ := hrel
    by_cases hkn : k < n
    · have gk : (k : Int) < (n : Int) := by omega
      have hkl : k < l.length := by omega
      obtain ⟨y, hy⟩ : ∃ y, l[k] = y := ⟨_, rfl⟩
      have IA := HA.out.on (by rw [HL.out]; exact I2.out)
      obtain ⟨b, off, rfl, hc⟩ := IA.at hkn
      have hd := hc k hkl
      rw [hy] at hd
      have c0 : wr.cell? ⟨b, off + k * 2, none⟩ = some (.string ⟨y.name.toArray⟩) := by simpa [bdR] using hd 0 _ rfl
      have c1 : wr.cell? ⟨b, off + k * 2 + 1, none⟩ = some (.int .i64 y.kind) := hd 1 _ rfl
      have hsb := World.block_lt_of_cell? wr _ c0
      obtain ⟨w2, hw2, YB, b2⟩ : ∃ w2, wr.alloc (.cells (bdC y).toArray 43) = w2 ∧ Box w2 wr.heap.size (bdC y) ∧ Below wr.heap.size wr w2 := ⟨_, rfl, Box.new _ _ _, (Below.refl _ _).alloc (Nat.le_refl _) _⟩
      obtain ⟨y0, y1⟩ := bx2 YB
      have hy2 := YB.1
      have htk : (l.take k).length = k := by rw [List.length_take]; omega
      have R2 := own_kept I1.out b2
      have R2r : Hid (w2.ownsRow L 70 bdR.k v (l.take k).length (bdR.cells (l.take k))) := Lib.hid (by rw [htk]; exact R2)
      have hLr : L ≤ wr.heap.size := by rw [← HL.out]; exact I2.out.size
      have hcl : L ≤ w2.heap.size := Nat.le_trans hLr b2.size
      have hnk : (l.take k).length + 1 ≤ 100000 := by rw [htk]; omega
      have B2 := Lib.hid (I2.out.trans (b2.mono hLr))
      have htk1 : l.take (k + 1) = l.take k ++ [y] := by rw [List.take_succ_eq_append_getElem hkl, hy]
      have HT1 := Lib.hid htk1; have HTK := Lib.hid htk
      unfold bdC at hw2
      have HW2 := Lib.hid hw2
      clear hc hd hw2 b2 YB I1 I2 IA hy R2 htk htk1
      go_upto_region 5 with fail
      rw [HW2.out]
      clear HW2 c0 c1 hsb
      go_wp2_with (at_builtin; refine append_rec doc_bdTy rfl _ _ rfl L v (l.take k) y (by rfl) R2r.out (by rfl) hnk hcl ?_)
      intro v' w3 hown hb3
      have FIN : Hid (w3.ownsRow L 70 2 v' (k + 1) (bdR.cells (l.take (k + 1))) ∧ Below L w w3) := Lib.hid (by
        rw [HT1.out]
        (try rw [HTK.out] at hown)
        exact ⟨hown, B2.out.trans hb3⟩)
      clear hown hb3 R2r y0 y1 hy2
      go_wp2_with fail
      exact ⟨⟨k + 1, _, by omega, rfl, rfl, Lib.hid FIN.out.1, Lib.hid FIN.out.2⟩, by simp [intOf]; omega⟩
    · obtain rfl : k = n := by omega
      have htn : l.take k = l := List.take_of_length_le (by omega)
      obtain ⟨A', c', rfl, h0, _, S⟩ : ∃ A cap, v = .slice A k cap ∧ (A = none → cap = 0) ∧ k ≤ cap ∧ SlX bdR wr A k l := by
        have h := I1.out
        rw [htn] at h
        exact slr_of_own h hll
      have FIN := Lib.hid S; have F0 := Lib.hid h0
      clear S h0 I1 htn
      go_wp2_with fail
      go_ret
      exact ⟨A', c', rfl, FIN.out, F0.out, I2.out⟩
end Go.Proofs.YtkmehhhgdeiaeaaDoor
