/-
  The fixed answer of stage 10's statements is true.
-/
import Derived.Test.YtkmehhhgdeiaeaaDoorLaw10NamesG
import Derived.Test.YtkmehhhgdeiaeaaDoorTreeOkG
namespace Go.Proofs.YtkmehhhgdeiaeaaDoor
open Go.RowKit
open PTree (R Ex Tr Rl Row)
open PCheck (Xp Bd)

/-- A read row as a row of any program. -/
def toXp (x : Ex) : Xp := ⟨x.op, x.name, x.value, x.a, x.b, x.c⟩
theorem slx_xp {w : World} {A : Option Addr} {n : Nat} {l : List Ex} (h : SlX exR w A n l) : SlX xpR w A n (l.map toXp) := by
  obtain ⟨h1, h2⟩ := h
  refine ⟨by rw [List.length_map]; exact h1, ?_⟩
  rcases h2 with h2 | ⟨b, off, e, hc⟩
  · exact .inl h2
  · refine .inr ⟨b, off, e, fun i hi j v hv => ?_⟩
    rw [List.getElem_map] at hv
    exact hc i (by simpa using hi) j v hv
theorem bx2' {w : World} {H : Nat} {a b : Value} (h : Box w H [a, b]) : w.cell? ⟨H, 0, none⟩ = some a ∧ w.cell? ⟨H, 1, none⟩ = some b := ⟨h.c 0 rfl, h.c 1 rfl⟩
def awakeRs : List Rl := [⟨[108, 101, 116], [97], .bin [42] (.amount 150) (.whole 2)⟩, ⟨[108, 101, 116], [98], .bin [43] (.amount 150) (.whole 2)⟩]
theorem awake10_ok : PTree.parse [108, 101, 116, 32, 97, 32, 61, 32, 49, 46, 53, 48, 32, 42, 32, 50, 59, 32, 108, 101, 116, 32, 98, 32, 61, 32, 49, 46, 53, 48, 32, 43, 32, 50, 59] = some (.ok [] awakeRs) := by decide +kernel
theorem awake10_two : PCheck.kind ((PTree.exprsOf 0 awakeRs).map toXp) 2 [] = (1, 0, 0) := by decide +kernel
theorem awake10_five : PCheck.kind ((PTree.exprsOf 0 awakeRs).map toXp) 5 [] = (0, 5, 7) := by decide +kernel
theorem awake10_few : ∀ x ∈ (PTree.exprsOf 0 awakeRs).map toXp, x.name.length ≤ maxLen := by
  have h : ((PTree.exprsOf 0 awakeRs).map toXp).all (fun x => decide (x.name.length ≤ 10)) = true := by decide +kernel
  intro x hx
  have := List.all_eq_true.1 h x hx
  have := of_decide_eq_true this
  unfold maxLen; omega
set_option maxHeartbeats 3200000 in
theorem aw10_any : Aw10 := by
  intro w
  have M1 : Hid (∀ w, Calls Tryd.prog 15 #[.string { data := #[108, 101, 116, 32, 97, 32, 61, 32, 49, 46, 53, 48, 32, 42, 32, 50, 59, 32, 108, 101, 116, 32, 98, 32, 61, 32, 49, 46, 53, 48, 32, 43, 32, 50, 59] }] w fun e w' => ∃ A ca B cb, e = .returned (.tuple #[.agg #[.slice A 2 ca, .slice B 6 cb], .int .i64 0, .int .i64 0]) ∧ (A = none → ca = 0) ∧ (B = none → cb = 0) ∧ 2 ≤ ca ∧ 6 ≤ cb ∧ SlX rowR w' A 2 (PTree.rowsOf 0 awakeRs) ∧ SlX exR w' B 6 (PTree.exprsOf 0 awakeRs) ∧ Below w.heap.size w w') := Lib.hid (tparse_cap (s := { data := #[108, 101, 116, 32, 97, 32, 61, 32, 49, 46, 53, 48, 32, 42, 32, 50, 59, 32, 108, 101, 116, 32, 98, 32, 61, 32, 49, 46, 53, 48, 32, 43, 32, 50, 59] }) awake10_ok (by decide))
  go_enter Tryd.func11, Tryd.ntmps11
  go_wp2_with fail
  refine (M1.out _).mono ?_
  rintro _ w1 ⟨A, ca, B, cb, rfl, -, -, -, hcb, -, s2, b1⟩
  obtain ⟨w2, hw2, PB, b2⟩ : ∃ w2, w1.alloc (.cells #[.slice A 2 ca, .slice B 6 cb] 25) = w2 ∧ Box w2 w1.heap.size [.slice A 2 ca, .slice B 6 cb] ∧ Below w1.heap.size w1 w2 := ⟨_, rfl, Box.new _ _ [.slice A 2 ca, .slice B 6 cb], (Below.refl _ _).alloc (Nat.le_refl _) _⟩
  have HW2 := Lib.hid hw2
  have B2 := Lib.hid (below_step b1 b2)
  have S2 := (slx_xp s2).on b2
  have K1 : Hid (Calls Tryd.prog 12 #[.agg #[.slice A 2 ca, .slice B 6 cb], .int .i64 2, .slice none 0 0] w2 (KdAns (1, 0, 0) w2)) := Lib.hid (by
    have h := kKind_any (TA := A) (tn := 2) (tc := ca) (c := cb) (lc := 0) (r := 2) (l := []) S2 hcb (slr_nil bdR w2 none) (by omega) (by omega) awake10_few (fun b hb => by cases hb)
    rw [awake10_two] at h; exact h)
  have S2 := Lib.hid S2
  obtain ⟨p0, p1⟩ := bx2' PB
  have hsp := PB.1
  have PB := Lib.hid PB
  clear M1 s2 b1 b2 hw2
  go_upto_region 2 with fail
  rw [HW2.out]
  go_wp2_with fail
  refine (K1.out).mono ?_
  rintro _ w3 ⟨rfl, b3⟩
  have B3 := Lib.hid (below_step B2.out b3)
  have P3 := PB.out.on b3
  have K2 : Hid (Calls Tryd.prog 12 #[.agg #[.slice A 2 ca, .slice B 6 cb], .int .i64 5, .slice none 0 0] w3 (KdAns (0, 5, 7) w3)) := Lib.hid (by
    have h := kKind_any (TA := A) (tn := 2) (tc := ca) (c := cb) (lc := 0) (r := 5) (l := []) (S2.out.on b3) hcb (slr_nil bdR w3 none) (by omega) (by omega) awake10_few (fun b hb => by cases hb)
    rw [awake10_five] at h; exact h)
  clear p0 p1 hsp
  obtain ⟨p0, p1⟩ := bx2' P3
  have hsp := P3.1
  clear b3 P3 PB S2 K1 HW2 B2
  go_wp2_with fail
  refine (K2.out).mono ?_
  rintro _ w4 ⟨rfl, b4⟩
  have B4 := Lib.hid (below_step B3.out b4)
  clear b4 K2 p0 p1 hsp
  go_wp2_with fail
  go_ret
  exact ⟨rfl, B4.out⟩
end Go.Proofs.YtkmehhhgdeiaeaaDoor
