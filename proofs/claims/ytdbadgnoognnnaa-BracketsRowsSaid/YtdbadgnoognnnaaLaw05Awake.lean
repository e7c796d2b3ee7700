/-
  The fixed answer of stage 5's statements is true; what the calls answer of a table that is right.
-/
import Derived.Test.YtdbadgnoognnnaaBrTax
namespace Go.Proofs.Ytdbadgnoognnnaa
open Go.RowKit
variable {A : Option Addr} {n cap : Nat} {a r : Nat → Int} {w : World} {x : Int}

theorem parts_ok (hA : SlP w A n a r) (hR : PBr.Rt a r n) (h0 : -9223372036854775807 ≤ x) (h1 : x ≤ 9223372036854775807) :
    Calls Try.prog 10 #[.slice A n cap, .int .i64 x] w (SplR (PBr.ptL a n x) 0 w) := by
  have := bparts_any (cap := cap) (bb := true) (x := x) hA ⟨fun _ => hR, fun _ => rfl⟩ (by omega) h1
  rw [PBr.errB_ok h0, if_pos rfl] at this
  exact this
theorem tax_ok (hA : SlP w A n a r) (hR : PBr.Rt a r n) (h0 : -9223372036854775807 ≤ x) (h1 : x ≤ 9223372036854775807) :
    Calls Try.prog 11 #[.slice A n cap, .int .i64 x] w fun e w' => e = .returned (.tuple #[.int .i64 (PBr.tax a r n x : Nat), .int .i64 0]) ∧ Below w.heap.size w w' := by
  have := btax_any (cap := cap) (bb := true) (x := x) hA ⟨fun _ => hR, fun _ => rfl⟩ (by omega) h1
  rw [PBr.errB_ok h0, if_pos rfl] at this
  exact this
theorem rate_ok (hA : SlP w A n a r) (hR : PBr.Rt a r n) (h0 : -9223372036854775807 ≤ x) (h1 : x ≤ 9223372036854775807) :
    Calls Try.prog 12 #[.slice A n cap, .int .i64 x] w fun e w' => e = .returned (.tuple #[.int .i64 (PBr.rateTo a r x n), .int .i64 0]) ∧ Below w.heap.size w w' := by
  have := brate_any (cap := cap) (bb := true) (x := x) hA ⟨fun _ => hR, fun _ => rfl⟩ (by omega) h1
  rw [PBr.errB_ok h0, if_pos rfl] at this
  exact this

def aA (i : Nat) : Int := if i = 0 then 0 else 10000
def aR (i : Nat) : Int := if i = 0 then 1000 else 2000
theorem awake_right : PBr.Rt aA aR 2 := ⟨⟨by omega, by omega, rfl⟩, fun i hi => by
  by_cases e : i = 0
  · subst e; exact ⟨⟨by decide, by decide⟩, fun h => absurd h (Nat.lt_irrefl _)⟩
  · obtain rfl : i = 1 := by omega
    exact ⟨⟨by decide, by decide⟩, fun _ => by decide⟩⟩
theorem awake_tax : PBr.tax aA aR 2 15000 = 2000 := by decide +kernel
theorem awake_rate : PBr.rateTo aA aR 15000 2 = 2000 := by decide +kernel

set_option maxHeartbeats 1600000 in
theorem awake_any (w : World) : Calls Try.prog 9 #[] w fun e w' => e = .returned (.bool true) ∧ Below w.heap.size w w' := by
  have L1 : Hid (∀ w : World, SlP (w.alloc (.cells #[.int .i64 0, .int .i64 1000, .int .i64 10000, .int .i64 2000] 34)) (some ⟨w.heap.size, 0, none⟩) 2 aA aR) := Lib.hid (fun w => slp_two w _ 0 1000 10000 2000 (by omega) (by omega) (by omega) (by omega))
  have M1 : Hid (∀ A w, SlP w A 2 aA aR → Calls Try.prog 11 #[.slice A 2 2, .int .i64 15000] w fun e w' => e = .returned (.tuple #[.int .i64 2000, .int .i64 0]) ∧ Below w.heap.size w w') := Lib.hid (fun A w h => by
    have := tax_ok (cap := 2) (x := 15000) h awake_right (by omega) (by omega)
    rw [awake_tax] at this; exact this)
  have M2 : Hid (∀ A w, SlP w A 2 aA aR → Calls Try.prog 12 #[.slice A 2 2, .int .i64 15000] w fun e w' => e = .returned (.tuple #[.int .i64 2000, .int .i64 0]) ∧ Below w.heap.size w w') := Lib.hid (fun A w h => by
    have := rate_ok (cap := 2) (x := 15000) h awake_right (by omega) (by omega)
    rw [awake_rate] at this; exact this)
  have M3 : Hid (∀ w, Calls Try.prog 11 #[.slice none 0 0, .int .i64 1] w fun e w' => e = .returned (.tuple #[.int .i64 0, .int .i64 1]) ∧ Below w.heap.size w w') := Lib.hid (fun w => by
    have := btax_any (cap := 0) (bb := false) (x := 1) (A := none) (n := 0) (a := fun _ => 0) (r := fun _ => 0) (w := w) ⟨fun i hi => by omega, by omega, .inl rfl⟩ ⟨fun h => (by cases h), fun h => (by have := h.1.1; omega)⟩ (by omega) (by omega)
    exact this)
  have M4 : Hid (∀ A w, SlP w A 2 aA aR → Calls Try.prog 14 #[.slice A 2 2] w fun e w' => e = .returned (.bool true) ∧ Below w.heap.size w w') := Lib.hid (fun A w h => bright_any h ⟨fun _ => awake_right, fun _ => rfl⟩)
  go_enter Try.func9, Try.ntmps9
  go_wp2_with fail
  have hsz : (w.alloc (.cells #[.int .i64 0, .int .i64 1000, .int .i64 10000, .int .i64 2000] 34)).heap.size = w.heap.size + 1 := by simp
  have S0 := Lib.hid (L1.out w)
  have B0 : Hid (Below w.heap.size w (w.alloc (.cells #[.int .i64 0, .int .i64 1000, .int .i64 10000, .int .i64 2000] 34))) := Lib.hid ((Below.refl _ _).alloc (Nat.le_refl _) _)
  generalize w.alloc (.cells #[.int .i64 0, .int .i64 1000, .int .i64 10000, .int .i64 2000] 34) = w1 at *
  refine (M1.out _ _ S0.out).mono ?_
  rintro _ w2 ⟨rfl, b2⟩
  have S2 := Lib.hid (S0.out.on b2)
  have B2 := Lib.hid (below_step B0.out b2)
  clear b2 S0 B0
  go_wp2_with fail
  refine (M2.out _ _ S2.out).mono ?_
  rintro _ w3 ⟨rfl, b3⟩
  have S3 := Lib.hid (S2.out.on b3)
  have B3 := Lib.hid (below_step B2.out b3)
  clear b3 S2 B2
  go_wp2_with fail
  refine (M3.out _).mono ?_
  rintro _ w4 ⟨rfl, b4⟩
  have S4 := Lib.hid (S3.out.on b4)
  have B4 := Lib.hid (below_step B3.out b4)
  clear b4 S3 B3
  go_wp2_with fail
  refine (M4.out _ _ S4.out).mono ?_
  rintro _ w5 ⟨rfl, b5⟩
  have B5 := Lib.hid (below_step B4.out b5)
  clear b5
  go_wp2_with fail
  go_ret
  exact ⟨rfl, B5.out⟩
end Go.Proofs.Ytdbadgnoognnnaa
