/-
  Whether what is served is refused, and by which error: package garnish.
-/
import Derived.Test.YtmmgejgmlhhfdaaGaKit
import Derived.Test.YtmmgejgmlhhfdaaBoxKit
namespace Go.Proofs.Ytmmgejgmlhhfdaa
open Go.RowKit

def PGa.low (o : PGa.Ord) : Bool := decide (o.cl < 0) || decide (o.ba < 0)
def PGa.over (o : PGa.Ord) : Bool := decide (1125899906842624 < o.cl) || decide (1125899906842624 < o.ba)
/-- The error's number. -/
def PGa.err (net prot : Int) (l : List PGa.Ord) : Int :=
  if 8 < l.length then 9 else if prot < 0 ∨ l.any PGa.low = true then 1 else if (net < -1125899906842624 ∨ 1125899906842624 < net) ∨ 1125899906842624 < prot ∨ l.any PGa.over = true then 3 else 0
/-- An order as a value. -/
def ordV (o : PGa.Ord) : Value := .agg #[.int .i64 o.c, .int .i64 o.p, .int .i64 o.cl, .int .i64 o.ba]
theorem box4 {w : World} {H : Nat} {a b c d : Value} (h : Box w H [a, b, c, d]) : w.cell? ⟨H, 0, none⟩ = some a ∧ w.cell? ⟨H, 1, none⟩ = some b ∧ w.cell? ⟨H, 2, none⟩ = some c ∧ w.cell? ⟨H, 3, none⟩ = some d := ⟨h.c 0 rfl, h.c 1 rfl, h.c 2 rfl, h.c 3 rfl⟩
theorem box4f {w : World} {H : Nat} {a b c d : Value} (h : Box w H [a, b, c, d]) : w.frozen? ⟨H, 0, none⟩ = false ∧ w.frozen? ⟨H, 1, none⟩ = false ∧ w.frozen? ⟨H, 2, none⟩ = false ∧ w.frozen? ⟨H, 3, none⟩ = false := ⟨h.f 0 rfl, h.f 1 rfl, h.f 2 rfl, h.f 3 rfl⟩
theorem any_upto {f : PGa.Ord → Bool} {l : List PGa.Ord} {k : Nat} (hk : k < l.length) (h : (l.take k).any f = false) : (l.take (k + 1)).any f = f l[k] := by
  rw [List.take_succ_eq_append_getElem hk, List.any_append, h]
  simp

theorem galow_is (o : PGa.Ord) (w : World) : Calls Try.prog 24 #[.agg #[.int .i64 o.c, .int .i64 o.p, .int .i64 o.cl, .int .i64 o.ba]] w fun e w' => e = .returned (.bool (PGa.low o)) ∧ Below w.heap.size w w' := by
  obtain ⟨c, p, cl, ba⟩ := o
  unfold PGa.low
  by_cases h1 : cl < 0
  · rw [decide_eq_true h1]
    go_enter Try.func24, Try.ntmps24
    go_wp2_with fail
    go_ret
    exact ⟨rfl, (Below.refl _ _).alloc (Nat.le_refl _) _⟩
  · rw [decide_eq_false h1]
    by_cases h2 : ba < 0
    · rw [decide_eq_true h2]
      go_enter Try.func24, Try.ntmps24
      go_wp2_with fail
      go_ret
      exact ⟨by first | rfl | (simp; done) | (simp; omega), (Below.refl _ _).alloc (Nat.le_refl _) _⟩
    · rw [decide_eq_false h2]
      go_enter Try.func24, Try.ntmps24
      go_wp2_with fail
      go_ret
      exact ⟨by first | rfl | (simp; done) | (simp; omega), (Below.refl _ _).alloc (Nat.le_refl _) _⟩

set_option maxHeartbeats 3200000 in
theorem galow_at {A : Option Addr} {n cap : Nat} {l : List PGa.Ord} {w : World} (h : SlO w A n l) :
    Calls Try.prog 32 #[.slice A n cap, .func (.func 24) #[] #[]] w fun e w' => (∃ z : Int, e = .returned (.int .i64 z) ∧ decide (0 ≤ z) = l.any PGa.low) ∧ Below w.heap.size w w' := by
  have H := Lib.hid h
  have hl := Lib.hid h.len
  have hmax := h.2.2
  clear h
  go_enter Try.func32, Try.ntmps32
  go_wp2_with fail
  go_loopw [8] (fun i wr => ∃ (k : Nat), k ≤ n ∧ i = .int .i64 k ∧ Hid ((l.take k).any PGa.low = false) ∧ Hid (Below w.heap.size w wr)) (fun i _ => n - (intOf i).toNat)
  case atStart => exact ⟨0, Nat.zero_le _, rfl, (show Hid _ from rfl), (show Hid _ from Below.refl _ _)⟩
  case round =>
    obtain ⟨k, hk, rfl, HK, HW⟩ := hrel
    by_cases hlt : k < n
    · obtain ⟨b, off, rfl, hc⟩ := (H.out.on HW.out).cells hlt
      have hkl : k < l.length := by rw [hl.out]; exact hlt
      obtain ⟨d0, d1, d2, d3⟩ := hc k hkl
      obtain ⟨o, ho⟩ : ∃ o, l[k] = o := ⟨_, rfl⟩
      rw [ho] at d0 d1 d2 d3
      have HN : Hid ((l.take (k + 1)).any PGa.low = PGa.low o) := Lib.hid (by rw [any_upto hkl HK.out, ho])
      have HX : Hid (PGa.low o = true → l.any PGa.low = true) := Lib.hid (fun h => List.any_eq_true.2 ⟨l[k], List.getElem_mem hkl, by rw [ho]; exact h⟩)
      have i1 : (0 : Int) ≤ (k : Int) := by omega
      have i2 : (k : Int) < (n : Int) := by omega
      clear hc ho
      cases hb : PGa.low o with
      | true =>
        have HA := HX.out hb
        go_wp2_with fail
        refine (galow_is o _).mono ?_
        rintro _ w3 ⟨rfl, b3⟩
        rw [hb]
        have B3 := Lib.hid (below_step HW.out b3)
        clear b3
        have HA2 := Lib.hid HA
        clear HA hb
        go_wp2_with fail
        go_ret
        exact ⟨⟨(k : Int), rfl, by rw [HA2.out]; exact decide_eq_true i1⟩, B3.out⟩
      | false =>
        go_wp2_with fail
        refine (galow_is o _).mono ?_
        rintro _ w3 ⟨rfl, b3⟩
        rw [hb]
        have B3 := Lib.hid (below_step HW.out b3)
        have HN2 : Hid ((l.take (k + 1)).any PGa.low = false) := Lib.hid (by rw [HN.out, hb])
        clear b3 hb
        go_wp2_with fail
        exact ⟨⟨k + 1, by omega, by congr 1, HN2, B3⟩, by simp [intOf]; omega⟩
    · obtain rfl : k = n := by omega
      have HZ : Hid (l.any PGa.low = false) := Lib.hid (by have := HK.out; rw [List.take_of_length_le (by rw [hl.out]; exact Nat.le_refl _)] at this; exact this)
      go_wp2_with fail
      go_ret
      exact ⟨⟨-1, rfl, by rw [HZ.out]; rfl⟩, HW.out⟩
theorem galow_any {A : Option Addr} {n cap : Nat} {l : List PGa.Ord} {w : World} (h : SlO w A n l) :
    Calls Try.prog 23 #[.slice A n cap, .func (.func 24) #[] #[]] w fun e w' => e = .returned (.bool (l.any PGa.low)) ∧ Below w.heap.size w w' := by
  have H := Lib.hid h; clear h
  go_enter Try.func23, Try.ntmps23
  go_wp2_with fail
  refine (galow_at H.out).mono ?_
  rintro _ w2 ⟨⟨z, rfl, hz⟩, b2⟩
  have HZ := Lib.hid hz; have B2 := Lib.hid b2
  clear hz b2
  go_wp2_with fail
  go_ret
  exact ⟨by rw [← HZ.out]; rfl, B2.out⟩

theorem gaover_is (o : PGa.Ord) (w : World) : Calls Try.prog 25 #[.agg #[.int .i64 o.c, .int .i64 o.p, .int .i64 o.cl, .int .i64 o.ba]] w fun e w' => e = .returned (.bool (PGa.over o)) ∧ Below w.heap.size w w' := by
  obtain ⟨c, p, cl, ba⟩ := o
  unfold PGa.over
  by_cases h1 : 1125899906842624 < cl
  · rw [decide_eq_true h1]
    go_enter Try.func25, Try.ntmps25
    go_wp2_with fail
    go_ret
    exact ⟨rfl, (Below.refl _ _).alloc (Nat.le_refl _) _⟩
  · rw [decide_eq_false h1]
    by_cases h2 : 1125899906842624 < ba
    · rw [decide_eq_true h2]
      go_enter Try.func25, Try.ntmps25
      go_wp2_with fail
      go_ret
      exact ⟨by first | rfl | (simp; done) | (simp; omega), (Below.refl _ _).alloc (Nat.le_refl _) _⟩
    · rw [decide_eq_false h2]
      go_enter Try.func25, Try.ntmps25
      go_wp2_with fail
      go_ret
      exact ⟨by first | rfl | (simp; done) | (simp; omega), (Below.refl _ _).alloc (Nat.le_refl _) _⟩

set_option maxHeartbeats 3200000 in
theorem gaover_at {A : Option Addr} {n cap : Nat} {l : List PGa.Ord} {w : World} (h : SlO w A n l) :
    Calls Try.prog 32 #[.slice A n cap, .func (.func 25) #[] #[]] w fun e w' => (∃ z : Int, e = .returned (.int .i64 z) ∧ decide (0 ≤ z) = l.any PGa.over) ∧ Below w.heap.size w w' := by
  have H := Lib.hid h
  have hl := Lib.hid h.len
  have hmax := h.2.2
  clear h
  go_enter Try.func32, Try.ntmps32
  go_wp2_with fail
  go_loopw [8] (fun i wr => ∃ (k : Nat), k ≤ n ∧ i = .int .i64 k ∧ Hid ((l.take k).any PGa.over = false) ∧ Hid (Below w.heap.size w wr)) (fun i _ => n - (intOf i).toNat)
  case atStart => exact ⟨0, Nat.zero_le _, rfl, (show Hid _ from rfl), (show Hid _ from Below.refl _ _)⟩
  case round =>
    obtain ⟨k, hk, rfl, HK, HW⟩ := hrel
    by_cases hlt : k < n
    · obtain ⟨b, off, rfl, hc⟩ := (H.out.on HW.out).cells hlt
      have hkl : k < l.length := by rw [hl.out]; exact hlt
      obtain ⟨d0, d1, d2, d3⟩ := hc k hkl
      obtain ⟨o, ho⟩ : ∃ o, l[k] = o := ⟨_, rfl⟩
      rw [ho] at d0 d1 d2 d3
      have HN : Hid ((l.take (k + 1)).any PGa.over = PGa.over o) := Lib.hid (by rw [any_upto hkl HK.out, ho])
      have HX : Hid (PGa.over o = true → l.any PGa.over = true) := Lib.hid (fun h => List.any_eq_true.2 ⟨l[k], List.getElem_mem hkl, by rw [ho]; exact h⟩)
      have i1 : (0 : Int) ≤ (k : Int) := by omega
      have i2 : (k : Int) < (n : Int) := by omega
      clear hc ho
      cases hb : PGa.over o with
      | true =>
        have HA := HX.out hb
        go_wp2_with fail
        refine (gaover_is o _).mono ?_
        rintro _ w3 ⟨rfl, b3⟩
        rw [hb]
        have B3 := Lib.hid (below_step HW.out b3)
        clear b3
        have HA2 := Lib.hid HA
        clear HA hb
        go_wp2_with fail
        go_ret
        exact ⟨⟨(k : Int), rfl, by rw [HA2.out]; exact decide_eq_true i1⟩, B3.out⟩
      | false =>
        go_wp2_with fail
        refine (gaover_is o _).mono ?_
        rintro _ w3 ⟨rfl, b3⟩
        rw [hb]
        have B3 := Lib.hid (below_step HW.out b3)
        have HN2 : Hid ((l.take (k + 1)).any PGa.over = false) := Lib.hid (by rw [HN.out, hb])
        clear b3 hb
        go_wp2_with fail
        exact ⟨⟨k + 1, by omega, by congr 1, HN2, B3⟩, by simp [intOf]; omega⟩
    · obtain rfl : k = n := by omega
      have HZ : Hid (l.any PGa.over = false) := Lib.hid (by have := HK.out; rw [List.take_of_length_le (by rw [hl.out]; exact Nat.le_refl _)] at this; exact this)
      go_wp2_with fail
      go_ret
      exact ⟨⟨-1, rfl, by rw [HZ.out]; rfl⟩, HW.out⟩
theorem gaover_any {A : Option Addr} {n cap : Nat} {l : List PGa.Ord} {w : World} (h : SlO w A n l) :
    Calls Try.prog 23 #[.slice A n cap, .func (.func 25) #[] #[]] w fun e w' => e = .returned (.bool (l.any PGa.over)) ∧ Below w.heap.size w w' := by
  have H := Lib.hid h; clear h
  go_enter Try.func23, Try.ntmps23
  go_wp2_with fail
  refine (gaover_at H.out).mono ?_
  rintro _ w2 ⟨⟨z, rfl, hz⟩, b2⟩
  have HZ := Lib.hid hz; have B2 := Lib.hid b2
  clear hz b2
  go_wp2_with fail
  go_ret
  exact ⟨by rw [← HZ.out]; rfl, B2.out⟩

set_option maxHeartbeats 3200000 in
theorem gafault_any {A : Option Addr} {n cap : Nat} {l : List PGa.Ord} {w : World} {net prot : Int} (h : SlO w A n l) :
    Calls Try.prog 16 #[.int .i64 net, .int .i64 prot, .slice A n cap] w fun e w' => e = .returned (.int .i64 (PGa.err net prot l)) ∧ Below w.heap.size w w' := by
  have hl := h.len
  have L1 : Hid (∀ w', Below w.heap.size w w' → Calls Try.prog 23 #[.slice A n cap, .func (.func 24) #[] #[]] w' fun e w'' => e = .returned (.bool (l.any PGa.low)) ∧ Below w'.heap.size w' w'') := Lib.hid (fun w' hb => galow_any (h.on hb))
  have L2 : Hid (∀ w', Below w.heap.size w w' → Calls Try.prog 23 #[.slice A n cap, .func (.func 25) #[] #[]] w' fun e w'' => e = .returned (.bool (l.any PGa.over)) ∧ Below w'.heap.size w' w'') := Lib.hid (fun w' hb => gaover_any (h.on hb))
  unfold PGa.err
  rw [hl]
  obtain ⟨b1, hb1⟩ : ∃ b, l.any PGa.low = b := ⟨_, rfl⟩
  obtain ⟨b2, hb2⟩ : ∃ b, l.any PGa.over = b := ⟨_, rfl⟩
  rw [hb1] at L1 ⊢; rw [hb2] at L2 ⊢
  clear h hl hb1 hb2
  by_cases h8 : 8 < n
  · rw [if_pos h8]
    have i8 : (8 : Int) < (n : Int) := by omega
    clear h8
    go_enter Try.func16, Try.ntmps16
    go_wp2_with fail
    go_ret
    exact ⟨rfl, Below.refl _ _⟩
  · rw [if_neg h8]
    have i8 : ¬ (8 : Int) < (n : Int) := by omega
    clear h8
    by_cases hp : prot < 0
    · rw [if_pos (.inl hp)]
      go_enter Try.func16, Try.ntmps16
      go_wp2_with fail
      go_ret
      exact ⟨rfl, Below.refl _ _⟩
    · cases b1 with
      | true =>
        rw [if_pos (.inr rfl)]
        go_enter Try.func16, Try.ntmps16
        go_wp2_with fail
        refine (L1.out _ (Below.refl _ _)).mono ?_
        rintro _ w2 ⟨rfl, q2⟩
        have Q2 := Lib.hid q2
        clear q2
        go_wp2_with fail
        go_ret
        exact ⟨rfl, Q2.out⟩
      | false =>
        rw [if_neg (fun k => by rcases k with k | k; exact hp k; cases k)]
        by_cases g : (net < -1125899906842624 ∨ 1125899906842624 < net) ∨ 1125899906842624 < prot
        · rw [if_pos (by rcases g with g | g; exact .inl g; exact .inr (.inl g))]
          by_cases g1 : net < -1125899906842624
          · clear g
            go_enter Try.func16, Try.ntmps16
            go_wp2_with fail
            refine (L1.out _ (Below.refl _ _)).mono ?_
            rintro _ w2 ⟨rfl, q2⟩
            have Q2 := Lib.hid q2
            clear q2
            go_wp2_with fail
            go_ret
            exact ⟨rfl, Q2.out⟩
          · by_cases g2 : 1125899906842624 < net
            · clear g
              go_enter Try.func16, Try.ntmps16
              go_wp2_with fail
              refine (L1.out _ (Below.refl _ _)).mono ?_
              rintro _ w2 ⟨rfl, q2⟩
              have Q2 := Lib.hid q2
              clear q2
              go_wp2_with fail
              go_ret
              exact ⟨rfl, Q2.out⟩
            · have g3 : 1125899906842624 < prot := by omega
              clear g
              go_enter Try.func16, Try.ntmps16
              go_wp2_with fail
              refine (L1.out _ (Below.refl _ _)).mono ?_
              rintro _ w2 ⟨rfl, q2⟩
              have Q2 := Lib.hid q2
              clear q2
              go_wp2_with fail
              go_ret
              exact ⟨rfl, Q2.out⟩
        · have g1 : ¬ net < -1125899906842624 := by omega
          have g2 : ¬ 1125899906842624 < net := by omega
          have g3 : ¬ 1125899906842624 < prot := by omega
          cases b2 with
          | true =>
            rw [if_pos (.inr (.inr rfl))]
            clear g
            go_enter Try.func16, Try.ntmps16
            go_wp2_with fail
            refine (L1.out _ (Below.refl _ _)).mono ?_
            rintro _ w2 ⟨rfl, q2⟩
            have Q2 := Lib.hid q2
            clear q2
            go_wp2_with fail
            refine (L2.out _ Q2.out).mono ?_
            rintro _ w3 ⟨rfl, q3⟩
            have Q3 := Lib.hid (below_step Q2.out q3)
            clear q3
            go_wp2_with fail
            go_ret
            exact ⟨rfl, Q3.out⟩
          | false =>
            rw [if_neg (fun k => by rcases k with k | k | k; exact g (.inl k); exact g (.inr k); cases k)]
            clear g
            go_enter Try.func16, Try.ntmps16
            go_wp2_with fail
            refine (L1.out _ (Below.refl _ _)).mono ?_
            rintro _ w2 ⟨rfl, q2⟩
            have Q2 := Lib.hid q2
            clear q2
            go_wp2_with fail
            refine (L2.out _ Q2.out).mono ?_
            rintro _ w3 ⟨rfl, q3⟩
            have Q3 := Lib.hid (below_step Q2.out q3)
            clear q3
            go_wp2_with fail
            go_ret
            exact ⟨rfl, Q3.out⟩
end Go.Proofs.Ytmmgejgmlhhfdaa
