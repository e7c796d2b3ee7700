/-
  Whether what is served is refused, and by which error: package garnish.
  What is left of a sorted list whose like neighbours go: each number once, rising: mathematics.
  The priorities of orders, each once, rising: package garnish.
  The wants of one priority, and what they are paid of what is left: package garnish.
  What each order is paid: garnish.Serve.
  What is left to claim: garnish.Paid.
  The fixed answer of stage 15's statements is true.
-/
import Derived.Test.YtmmgejgmlhhfdaaGaKit
import Derived.Test.YtmmgejgmlhhfdaaBoxKit
import Derived.Lib.SlicesCompact
import Derived.Test.YtmmgejgmlhhfdaaShelf
import Derived.Test.YtmmgejgmlhhfdaaRowKit
import Derived.Lib.OwnBridge
import Derived.Sort.OwnSortedInts
import Derived.Test.YtmmgejgmlhhfdaaSplitNew
import Derived.Lib.SliceRun
import Derived.Laws.OwnMore
import Derived.Test.YtmmgejgmlhhfdaaRef04Sum

namespace Go.Proofs.Ytmmgejgmlhhfdaa
open Go.RowKit

def PGa.low (o : PGa.Ord) : Bool := decide (o.cl < 0) || decide (o.ba < 0)
def PGa.over (o : PGa.Ord) : Bool := decide (1125899906842624 < o.cl) || decide (1125899906842624 < o.ba)
/-- The error's number. -/
def PGa.err (net prot : Int) (l : List PGa.Ord) : Int :=
  if 8 < l.length then 9 else if prot < 0 ∨ l.any PGa.low = true then 1 else if (net < -1125899906842624 ∨ 1125899906842624 < net) ∨ 1125899906842624 < prot ∨ l.any PGa.over = true then 3 else 0
/-- An order as a value. -/
def ordV (o : PGa.Ord) : Value := .agg #[.int .i64 o.c, .int .i64 o.p, .int .i64 o.cl, .int .i64 o.ba]
theorem box4 {w : World} {H : Nat} {a b c d : Value} (h : Box w H [a, b, c, d]) : w.cell? ⟨H, 0, none⟩ = some a ∧ w.cell? ⟨H, 1, none⟩ = some b ∧ w.cell? ⟨H, 2, none⟩ = some c ∧ w.cell? ⟨H, 3, none⟩ = some d := ⟨h.c 0 rfl, h.c 1 rfl, h.c 2 rfl, h.c 3 rfl⟩
theorem box4f {w : World} {H : Nat} {a b c d : Value} (h : Box w H [a, b, c, d]) : w.frozen? ⟨H, 0, none⟩ = false ∧ w.frozen? ⟨H, 1, none⟩ = false ∧ w.frozen? ⟨H, 2, none⟩ = false ∧ w.frozen? ⟨H, 3, none⟩ = false := ⟨h.f 0 rfl, h.f 1 rfl, h.f 2 rfl, h.f 3 rfl⟩
theorem any_upto {f : PGa.Ord → Bool} {l : List PGa.Ord} {k : Nat} (hk : k < l.length) (h : (l.take k).any f = false) : (l.take (k + 1)).any f = f l[k] := by
  rw [List.take_succ_eq_append_getElem hk, List.any_append, h]
  simp

theorem galow_is (o : PGa.Ord) (w : World) : Calls Try.prog 24 #[.agg #[.int .i64 o.c, .int .i64 o.p, .int .i64 o.cl, .int .i64 o.ba]] w fun e w' => e = .returned (.bool (PGa.low o)) ∧ Below w.heap.size w w' := by
  obtain ⟨c, p, cl, ba⟩ := o
  unfold PGa.low
  by_cases h1 : cl < 0
  · rw [decide_eq_true h1]
    go_enter Try.func24, Try.ntmps24
    go_wp2_with fail
    go_ret
    exact ⟨rfl, (Below.refl _ _).alloc (Nat.le_refl _) _⟩
  · rw [decide_eq_false h1]
    by_cases h2 : ba < 0
    · rw [decide_eq_true h2]
      go_enter Try.func24, Try.ntmps24
      go_wp2_with fail
      go_ret
      exact ⟨by first | rfl | (simp; done) | (simp; omega), (Below.refl _ _).alloc (Nat.le_refl _) _⟩
    · rw [decide_eq_false h2]
      go_enter Try.func24, Try.ntmps24
      go_wp2_with fail
      go_ret
      exact ⟨by first | rfl | (simp; done) | (simp; omega), (Below.refl _ _).alloc (Nat.le_refl _) _⟩

set_option maxHeartbeats 3200000 in
theorem galow_at {A : Option Addr} {n cap : Nat} {l : List PGa.Ord} {w : World} (h : SlO w A n l) :
    Calls Try.prog 32 #[.slice A n cap, .func (.func 24) #[] #[]] w fun e w' => (∃ z : Int, e = .returned (.int .i64 z) ∧ decide (0 ≤ z) = l.any PGa.low) ∧ Below w.heap.size w w' := by
  have H := Lib.hid h
  have hl := Lib.hid h.len
  have hmax := h.2.2
  clear h
  go_enter Try.func32, Try.ntmps32
  go_wp2_with fail
  go_loopw [8] (fun i wr => ∃ (k : Nat), k ≤ n ∧ i = .int .i64 k ∧ Hid ((l.take k).any PGa.low = false) ∧ Hid (Below w.heap.size w wr)) (fun i _ => n - (intOf i).toNat)
  case atStart => exact ⟨0, Nat.zero_le _, rfl, (show Hid _ from rfl), (show Hid _ from Below.refl _ _)⟩
  case round =>
    obtain ⟨k, hk, rfl, HK, HW⟩ := hrel
    by_cases hlt : k < n
    · obtain ⟨b, off, rfl, hc⟩ := (H.out.on HW.out).cells hlt
      have hkl : k < l.length := by rw [hl.out]; exact hlt
      obtain ⟨d0, d1, d2, d3⟩ := hc k hkl
      obtain ⟨o, ho⟩ : ∃ o, l[k] = o := ⟨_, rfl⟩
      rw [ho] at d0 d1 d2 d3
      have HN : Hid ((l.take (k + 1)).any PGa.low = PGa.low o) := Lib.hid (by rw [any_upto hkl HK.out, ho])
      have HX : Hid (PGa.low o = true → l.any PGa.low = true) := Lib.hid (fun h => List.any_eq_true.2 ⟨l[k], List.getElem_mem hkl, by rw [ho]; exact h⟩)
      have i1 : (0 : Int) ≤ (k : Int) := by omega
      have i2 : (k : Int) < (n : Int) := by omega
      clear hc ho
      cases hb : PGa.low o with
      | true =>
        have HA := HX.out hb
        go_wp2_with fail
        refine (galow_is o _).mono ?_
        rintro _ w3 ⟨rfl, b3⟩
        rw [hb]
        have B3 := Lib.hid (below_step HW.out b3)
        clear b3
        have HA2 := Lib.hid HA
        clear HA hb
        go_wp2_with fail
        go_ret
        exact ⟨⟨(k : Int), rfl, by rw [HA2.out]; exact decide_eq_true i1⟩, B3.out⟩
      | false =>
        go_wp2_with fail
        refine (galow_is o _).mono ?_
        rintro _ w3 ⟨rfl, b3⟩
        rw [hb]
        have B3 := Lib.hid (below_step HW.out b3)
        have HN2 : Hid ((l.take (k + 1)).any PGa.low = false) := Lib.hid (by rw [HN.out, hb])
        clear b3 hb
        go_wp2_with fail
        exact ⟨⟨k + 1, by omega, by congr 1, HN2, B3⟩, by simp [intOf]; omega⟩
    · obtain rfl : k = n := by omega
      have HZ : Hid (l.any PGa.low = false) := Lib.hid (by have := HK.out; rw [List.take_of_length_le (by rw [hl.out]; exact Nat.le_refl _)] at this; exact this)
      go_wp2_with fail
      go_ret
      exact ⟨⟨-1, rfl, by rw [HZ.out]; rfl⟩, HW.out⟩
theorem galow_any {A : Option Addr} {n cap : Nat} {l : List PGa.Ord} {w : World} (h : SlO w A n l) :
    Calls Try.prog 23 #[.slice A n cap, .func (.func 24) #[] #[]] w fun e w' => e = .returned (.bool (l.any PGa.low)) ∧ Below w.heap.size w w' := by
  have H := Lib.hid h; clear h
  go_enter Try.func23, Try.ntmps23
  go_wp2_with fail
  refine (galow_at H.out).mono ?_
  rintro _ w2 ⟨⟨z, rfl, hz⟩, b2⟩
  have HZ := Lib.hid hz; have B2 := Lib.hid b2
  clear hz b2
  go_wp2_with fail
  go_ret
  exact ⟨by rw [← HZ.out]; rfl, B2.out⟩

theorem gaover_is (o : PGa.Ord) (w : World) : Calls Try.prog 25 #[.agg #[.int .i64 o.c, .int .i64 o.p, .int .i64 o.cl, .int .i64 o.ba]] w fun e w' => e = .returned (.bool (PGa.over o)) ∧ Below w.heap.size w w' := by
  obtain ⟨c, p, cl, ba⟩ := o
  unfold PGa.over
  by_cases h1 : 1125899906842624 < cl
  · rw [decide_eq_true h1]
    go_enter Try.func25, Try.ntmps25
    go_wp2_with fail
    go_ret
    exact ⟨rfl, (Below.refl _ _).alloc (Nat.le_refl _) _⟩
  · rw [decide_eq_false h1]
    by_cases h2 : 1125899906842624 < ba
    · rw [decide_eq_true h2]
      go_enter Try.func25, Try.ntmps25
      go_wp2_with fail
      go_ret
      exact ⟨by first | rfl | (simp; done) | (simp; omega), (Below.refl _ _).alloc (Nat.le_refl _) _⟩
    · rw [decide_eq_false h2]
      go_enter Try.func25, Try.ntmps25
      go_wp2_with fail
      go_ret
      exact ⟨by first | rfl | (simp; done) | (simp; omega), (Below.refl _ _).alloc (Nat.le_refl _) _⟩

set_option maxHeartbeats 3200000 in
theorem gaover_at {A : Option Addr} {n cap : Nat} {l : List PGa.Ord} {w : World} (h : SlO w A n l) :
    Calls Try.prog 32 #[.slice A n cap, .func (.func 25) #[] #[]] w fun e w' => (∃ z : Int, e = .returned (.int .i64 z) ∧ decide (0 ≤ z) = l.any PGa.over) ∧ Below w.heap.size w w' := by
  have H := Lib.hid h
  have hl := Lib.hid h.len
  have hmax := h.2.2
  clear h
  go_enter Try.func32, Try.ntmps32
  go_wp2_with fail
  go_loopw [8] (fun i wr => ∃ (k : Nat), k ≤ n ∧ i = .int .i64 k ∧ Hid ((l.take k).any PGa.over = false) ∧ Hid (Below w.heap.size w wr)) (fun i _ => n - (intOf i).toNat)
  case atStart => exact ⟨0, Nat.zero_le _, rfl, (show Hid _ from rfl), (show Hid _ from Below.refl _ _)⟩
  case round =>
    obtain ⟨k, hk, rfl, HK, HW⟩ := hrel
    by_cases hlt : k < n
    · obtain ⟨b, off, rfl, hc⟩ := (H.out.on HW.out).cells hlt
      have hkl : k < l.length := by rw [hl.out]; exact hlt
      obtain ⟨d0, d1, d2, d3⟩ := hc k hkl
      obtain ⟨o, ho⟩ : ∃ o, l[k] = o := ⟨_, rfl⟩
      rw [ho] at d0 d1 d2 d3
      have HN : Hid ((l.take (k + 1)).any PGa.over = PGa.over o) := Lib.hid (by rw [any_upto hkl HK.out, ho])
      have HX : Hid (PGa.over o = true → l.any PGa.over = true) := Lib.hid (fun h => List.any_eq_true.2 ⟨l[k], List.getElem_mem hkl, by rw [ho]; exact h⟩)
      have i1 : (0 : Int) ≤ (k : Int) := by omega
      have i2 : (k : Int) < (n : Int) := by omega
      clear hc ho
      cases hb : PGa.over o with
      | true =>
        have HA := HX.out hb
        go_wp2_with fail
        refine (gaover_is o _).mono ?_
        rintro _ w3 ⟨rfl, b3⟩
        rw [hb]
        have B3 := Lib.hid (below_step HW.out b3)
        clear b3
        have HA2 := Lib.hid HA
        clear HA hb
        go_wp2_with fail
        go_ret
        exact ⟨⟨(k : Int), rfl, by rw [HA2.out]; exact decide_eq_true i1⟩, B3.out⟩
      | false =>
        go_wp2_with fail
        refine (gaover_is o _).mono ?_
        rintro _ w3 ⟨rfl, b3⟩
        rw [hb]
        have B3 := Lib.hid (below_step HW.out b3)
        have HN2 : Hid ((l.take (k + 1)).any PGa.over = false) := Lib.hid (by rw [HN.out, hb])
        clear b3 hb
        go_wp2_with fail
        exact ⟨⟨k + 1, by omega, by congr 1, HN2, B3⟩, by simp [intOf]; omega⟩
    · obtain rfl : k = n := by omega
      have HZ : Hid (l.any PGa.over = false) := Lib.hid (by have := HK.out; rw [List.take_of_length_le (by rw [hl.out]; exact Nat.le_refl _)] at this; exact this)
      go_wp2_with fail
      go_ret
      exact ⟨⟨-1, rfl, by rw [HZ.out]; rfl⟩, HW.out⟩
theorem gaover_any {A : Option Addr} {n cap : Nat} {l : List PGa.Ord} {w : World} (h : SlO w A n l) :
    Calls Try.prog 23 #[.slice A n cap, .func (.func 25) #[] #[]] w fun e w' => e = .returned (.bool (l.any PGa.over)) ∧ Below w.heap.size w w' := by
  have H := Lib.hid h; clear h
  go_enter Try.func23, Try.ntmps23
  go_wp2_with fail
  refine (gaover_at H.out).mono ?_
  rintro _ w2 ⟨⟨z, rfl, hz⟩, b2⟩
  have HZ := Lib.hid hz; have B2 := Lib.hid b2
  clear hz b2
  go_wp2_with fail
  go_ret
  exact ⟨by rw [← HZ.out]; rfl, B2.out⟩

set_option maxHeartbeats 3200000 in
theorem gafault_any {A : Option Addr} {n cap : Nat} {l : List PGa.Ord} {w : World} {net prot : Int} (h : SlO w A n l) :
    Calls Try.prog 16 #[.int .i64 net, .int .i64 prot, .slice A n cap] w fun e w' => e = .returned (.int .i64 (PGa.err net prot l)) ∧ Below w.heap.size w w' := by
  have hl := h.len
  have L1 : Hid (∀ w', Below w.heap.size w w' → Calls Try.prog 23 #[.slice A n cap, .func (.func 24) #[] #[]] w' fun e w'' => e = .returned (.bool (l.any PGa.low)) ∧ Below w'.heap.size w' w'') := Lib.hid (fun w' hb => galow_any (h.on hb))
  have L2 : Hid (∀ w', Below w.heap.size w w' → Calls Try.prog 23 #[.slice A n cap, .func (.func 25) #[] #[]] w' fun e w'' => e = .returned (.bool (l.any PGa.over)) ∧ Below w'.heap.size w' w'') := Lib.hid (fun w' hb => gaover_any (h.on hb))
  unfold PGa.err
  rw [hl]
  obtain ⟨b1, hb1⟩ : ∃ b, l.any PGa.low = b := ⟨_, rfl⟩
  obtain ⟨b2, hb2⟩ : ∃ b, l.any PGa.over = b := ⟨_, rfl⟩
  rw [hb1] at L1 ⊢; rw [hb2] at L2 ⊢
  clear h hl hb1 hb2
  by_cases h8 : 8 < n
  · rw [if_pos h8]
    have i8 : (8 : Int) < (n : Int) := by omega
    clear h8
    go_enter Try.func16, Try.ntmps16
    go_wp2_with fail
    go_ret
    exact ⟨rfl, Below.refl _ _⟩
  · rw [if_neg h8]
    have i8 : ¬ (8 : Int) < (n : Int) := by omega
    clear h8
    by_cases hp : prot < 0
    · rw [if_pos (.inl hp)]
      go_enter Try.func16, Try.ntmps16
      go_wp2_with fail
      go_ret
      exact ⟨rfl, Below.refl _ _⟩
    · cases b1 with
      | true =>
        rw [if_pos (.inr rfl)]
        go_enter Try.func16, Try.ntmps16
        go_wp2_with fail
        refine (L1.out _ (Below.refl _ _)).mono ?_
        rintro _ w2 ⟨rfl, q2⟩
        have Q2 := Lib.hid q2
        clear q2
        go_wp2_with fail
        go_ret
        exact ⟨rfl, Q2.out⟩
      | false =>
        rw [if_neg (fun k => by rcases k with k | k; exact hp k; cases k)]
        by_cases g : (net < -1125899906842624 ∨ 1125899906842624 < net) ∨ 1125899906842624 < prot
        · rw [if_pos (by rcases g with g | g; exact .inl g; exact .inr (.inl g))]
          by_cases g1 : net < -1125899906842624
          · clear g
            go_enter Try.func16, Try.ntmps16
            go_wp2_with fail
            refine (L1.out _ (Below.refl _ _)).mono ?_
            rintro _ w2 ⟨rfl, q2⟩
            have Q2 := Lib.hid q2
            clear q2
            go_wp2_with fail
            go_ret
            exact ⟨rfl, Q2.out⟩
          · by_cases g2 : 1125899906842624 < net
            · clear g
              go_enter Try.func16, Try.ntmps16
              go_wp2_with fail
              refine (L1.out _ (Below.refl _ _)).mono ?_
              rintro _ w2 ⟨rfl, q2⟩
              have Q2 := Lib.hid q2
              clear q2
              go_wp2_with fail
              go_ret
              exact ⟨rfl, Q2.out⟩
            · have g3 : 1125899906842624 < prot := by omega
              clear g
              go_enter Try.func16, Try.ntmps16
              go_wp2_with fail
              refine (L1.out _ (Below.refl _ _)).mono ?_
              rintro _ w2 ⟨rfl, q2⟩
              have Q2 := Lib.hid q2
              clear q2
              go_wp2_with fail
              go_ret
              exact ⟨rfl, Q2.out⟩
        · have g1 : ¬ net < -1125899906842624 := by omega
          have g2 : ¬ 1125899906842624 < net := by omega
          have g3 : ¬ 1125899906842624 < prot := by omega
          cases b2 with
          | true =>
            rw [if_pos (.inr (.inr rfl))]
            clear g
            go_enter Try.func16, Try.ntmps16
            go_wp2_with fail
            refine (L1.out _ (Below.refl _ _)).mono ?_
            rintro _ w2 ⟨rfl, q2⟩
            have Q2 := Lib.hid q2
            clear q2
            go_wp2_with fail
            refine (L2.out _ Q2.out).mono ?_
            rintro _ w3 ⟨rfl, q3⟩
            have Q3 := Lib.hid (below_step Q2.out q3)
            clear q3
            go_wp2_with fail
            go_ret
            exact ⟨rfl, Q3.out⟩
          | false =>
            rw [if_neg (fun k => by rcases k with k | k | k; exact g (.inl k); exact g (.inr k); cases k)]
            clear g
            go_enter Try.func16, Try.ntmps16
            go_wp2_with fail
            refine (L1.out _ (Below.refl _ _)).mono ?_
            rintro _ w2 ⟨rfl, q2⟩
            have Q2 := Lib.hid q2
            clear q2
            go_wp2_with fail
            refine (L2.out _ Q2.out).mono ?_
            rintro _ w3 ⟨rfl, q3⟩
            have Q3 := Lib.hid (below_step Q2.out q3)
            clear q3
            go_wp2_with fail
            go_ret
            exact ⟨rfl, Q3.out⟩
end Go.Proofs.Ytmmgejgmlhhfdaa

namespace Go.Proofs.Ytmmgejgmlhhfdaa
open Go.Lib

theorem compact_upto (d : Array Int) (hs : ∀ i j, i ≤ j → j < d.size → d[i]! ≤ d[j]!) : ∀ m, m ≤ d.size → (compactUpTo d m).Pairwise (· < ·) ∧ ∀ x, x ∈ compactUpTo d m ↔ ∃ j, j < m ∧ d[j]! = x := by
  intro m
  induction m with
  | zero => intro _; exact ⟨by simp [compactUpTo], fun x => by simp [compactUpTo]⟩
  | succ m ih =>
    intro hm
    obtain ⟨h1, h2⟩ := ih (by omega)
    rw [compactUpTo_succ]
    by_cases hk : keeps d m = true
    · rw [if_pos hk]
      refine ⟨?_, fun x => ?_⟩
      · rw [List.pairwise_append]
        refine ⟨h1, by simp, fun a ha b hb => ?_⟩
        obtain ⟨j, hj, rfl⟩ := (h2 a).1 ha
        simp at hb
        subst hb
        have h3 := hs j (m - 1) (by omega) (by omega)
        have h4 := hs (m - 1) m (by omega) (by omega)
        have h5 : d[m]! ≠ d[m - 1]! := by
          simp [keeps] at hk
          rcases hk with hk | hk
          · omega
          · simpa using hk
        omega
      · rw [List.mem_append, h2 x]
        simp
        constructor
        · rintro (⟨j, hj, e⟩ | e)
          · exact ⟨j, by omega, e⟩
          · exact ⟨m, by omega, e.symm⟩
        · rintro ⟨j, hj, e⟩
          by_cases e2 : j = m
          · subst e2; exact .inr e.symm
          · exact .inl ⟨j, by omega, e⟩
    · rw [if_neg hk, List.append_nil]
      refine ⟨h1, fun x => ?_⟩
      rw [h2 x]
      constructor
      · rintro ⟨j, hj, e⟩; exact ⟨j, by omega, e⟩
      · rintro ⟨j, hj, e⟩
        by_cases e2 : j = m
        · subst e2
          simp [keeps] at hk
          exact ⟨j - 1, by omega, by rw [← e]; simpa using hk.2.symm⟩
        · exact ⟨j, by omega, e⟩
/-- Sorted, like neighbours gone: each number once, rising. -/
theorem compact_sorted (zs : List Int) : (compact (zs.mergeSort fun x y => decide (x ≤ y))).Pairwise (· < ·) ∧ (∀ x, x ∈ compact (zs.mergeSort fun x y => decide (x ≤ y)) ↔ x ∈ zs) := by
  obtain ⟨ss, hss⟩ : ∃ ss, (zs.mergeSort fun x y => decide (x ≤ y)) = ss := ⟨_, rfl⟩
  have hp : ss.Pairwise (fun a b => decide (a ≤ b) = true) := by
    rw [← hss]
    exact List.pairwise_mergeSort (le := fun x y : Int => decide (x ≤ y)) (fun a b c h1 h2 => by simp at *; omega) (fun a b => by simp; omega) zs
  have hm : ∀ x, x ∈ ss ↔ x ∈ zs := fun x => by rw [← hss]; exact List.mem_mergeSort
  rw [hss]
  have hs : ∀ i j, i ≤ j → j < ss.toArray.size → ss.toArray[i]! ≤ ss.toArray[j]! := by
    intro i j hij hj
    have hj' : j < ss.length := by simpa using hj
    by_cases e : i = j
    · subst e; exact Int.le_refl _
    · have := List.pairwise_iff_getElem.1 hp i j (by omega) hj' (by omega)
      simp at this
      simpa [getElem!_pos, hj', show i < ss.length by omega] using this
  obtain ⟨h1, h2⟩ := compact_upto ss.toArray hs ss.length (by simp)
  refine ⟨h1, fun x => ?_⟩
  unfold compact
  rw [h2 x, ← hm x]
  constructor
  · rintro ⟨j, hj, rfl⟩
    simp [getElem!_pos, hj]
  · intro hx
    obtain ⟨j, hj, e⟩ := List.getElem_of_mem hx
    exact ⟨j, hj, by simpa [getElem!_pos, hj] using e⟩
end Go.Proofs.Ytmmgejgmlhhfdaa

namespace Go.Proofs.Ytmmgejgmlhhfdaa
open Go.RowKit

/-- A slice of the priorities of orders, in a block that is new. -/
structure Prios (l : List PGa.Ord) (w : World) (P : Option Addr) (m c : Nat) (ps : List Int) (w' : World) : Prop where
  sl : Sl w' P m ps
  up : ∀ i j, i < j → j < m → ps.getD i 0 < ps.getD j 0
  got : ∀ i, i < l.length → ∃ j, j < m ∧ ps.getD j 0 = PGa.pr l i
  from' : ∀ j, j < m → ∃ i, i < l.length ∧ PGa.pr l i = ps.getD j 0
  few : m ≤ l.length
  below : Below w.heap.size w w'
  fresh : ∀ ad, P = some ad → w.heap.size ≤ ad.block
def PrioR (l : List PGa.Ord) (w : World) (e : Ending) (w' : World) : Prop := ∃ P m c ps, e = .returned (.slice P m c) ∧ Prios l w P m c ps w'
theorem getD_mem {l : List Int} {j : Nat} (h : j < l.length) : l.getD j 0 ∈ l := by simp [List.getD, h]
/-- What is behind Sort and Compact. -/
theorem prios_of {l : List PGa.Ord} {w w2 w3 : World} {H n k q cap : Nat} {os : Array Obj} {zs : List Int} (hn : n ≤ 8) (hz : zs.length = n) (hl : l.length = n) (hzs : ∀ i, i < n → zs.getD i 0 = PGa.pr l i) (hw : w.heap.size ≤ H) (hB : Below w.heap.size w w2) (hH : H < w2.heap.size)
    (h0 : Go.Sort.Holds (Value.int .i64) w2 H 0 zs.toArray) (hi : In64 zs)
    (e3 : w3 = Go.Sort.putRow (Value.int .i64) (Go.Sort.ahead (Go.Sort.grow (Go.Sort.putRow (Value.int .i64) (Go.Sort.ahead w2 k) H 0 (zs.mergeSort fun x y => decide (x ≤ y)).toArray) os) q) H 0 (Lib.compact (zs.mergeSort fun x y => decide (x ≤ y)) ++ List.replicate ((zs.mergeSort fun x y => decide (x ≤ y)).length - (Lib.compact (zs.mergeSort fun x y => decide (x ≤ y))).length) 0).toArray) :
    Prios l w (some ⟨H, 0, none⟩) (Lib.compact (zs.mergeSort fun x y => decide (x ≤ y))).length cap (Lib.compact (zs.mergeSort fun x y => decide (x ≤ y))) w3 := by
  obtain ⟨h1, h2⟩ := compact_sorted zs
  have hls : (zs.mergeSort fun x y => decide (x ≤ y)).length = zs.length := List.length_mergeSort zs
  have hle := Lib.compact_length_le (zs.mergeSort fun x y => decide (x ≤ y))
  obtain ⟨ss, hss⟩ : ∃ ss, (zs.mergeSort fun x y => decide (x ≤ y)) = ss := ⟨_, rfl⟩
  rw [hss] at h1 h2 hls hle e3 ⊢
  obtain ⟨ps, hps⟩ : ∃ ps, Lib.compact ss = ps := ⟨_, rfl⟩
  rw [hps] at h1 h2 hle e3 ⊢
  have hH1 : Go.Sort.Holds (Value.int .i64) (Go.Sort.grow (Go.Sort.putRow (Value.int .i64) (Go.Sort.ahead w2 k) H 0 ss.toArray) os) H 0 ss.toArray :=
    Go.Sort.holds_grow _ _ os H 0 _ (by simpa [Go.Sort.putRow, Go.Sort.mapBlock, Go.Sort.ahead] using hH) (Go.Sort.holds_putRow _ _ H 0 _ _ (Go.Sort.holds_ahead _ w2 k H 0 _ h0) (by simp [hls]))
  have hH3 : Go.Sort.Holds (Value.int .i64) w3 H 0 (ps ++ List.replicate (ss.length - ps.length) 0).toArray := by
    rw [e3]
    exact Go.Sort.holds_putRow _ _ H 0 _ _ (Go.Sort.holds_ahead _ _ q H 0 _ hH1) (by simp; omega)
  have hin : ∀ x, x ∈ ps → -9223372036854775808 ≤ x ∧ x ≤ 9223372036854775807 := fun x hx => by
    obtain ⟨j, hj, e⟩ := List.getElem_of_mem ((h2 x).1 hx)
    have := hi j hj
    simp [List.getD, hj] at this
    rw [← e]; exact this
  refine ⟨⟨rfl, fun i h => hin _ (getD_mem h), by omega, ?_⟩, fun i j hij hj => ?_, fun i hil => ?_, fun j hj => ?_, by omega, ?_, fun ad e => by cases e; exact hw⟩
  · refine .inr ⟨H, 0, rfl, fun i hi' => ?_⟩
    have := (hH3 i (by simp; omega)).1
    rw [this]
    simp [List.getD, getElem!_pos, hi', List.getElem_append_left hi', show i < ps.length + (ss.length - ps.length) by omega]
  · have := List.pairwise_iff_getElem.1 h1 i j (by omega) hj hij
    simpa [List.getD, show i < ps.length by omega, hj] using this
  · have hx : PGa.pr l i ∈ zs := by rw [← hzs i (by omega)]; exact getD_mem (by omega)
    obtain ⟨j, hj, e⟩ := List.getElem_of_mem ((h2 _).2 hx)
    exact ⟨j, hj, by simp [List.getD, hj, e]⟩
  · obtain ⟨i, hi', e⟩ := List.getElem_of_mem ((h2 _).1 (getD_mem hj))
    exact ⟨i, by omega, by rw [← hzs i (by omega), ← e]; simp [List.getD, hi']⟩
  · rw [e3]
    have b1 : Below w.heap.size w (Go.Sort.grow (Go.Sort.putRow (Value.int .i64) (Go.Sort.ahead w2 k) H 0 ss.toArray) os) := hB.grown (Go.grownBy_sortedI _) hB.size (fun j hj => by cases hj; exact hw)
    exact Lib.below_putRow b1 hw

set_option maxHeartbeats 3200000 in
set_option maxRecDepth 100000 in
theorem prio_any {A : Option Addr} {n cap : Nat} {l : List PGa.Ord} {w : World} (h : SlO w A n l) (hn : n ≤ 8) :
    Calls Try.prog 17 #[.slice A n cap] w (PrioR l w) := by
  have H := Lib.hid h
  have hl := Lib.hid h.len
  have hmk := make_row n (by omega)
  have HI : Hid (∀ i, i < n → -9223372036854775808 ≤ PGa.pr l i ∧ PGa.pr l i ≤ 9223372036854775807) := Lib.hid (fun i hi => by
    have hil : i < l.length := by rw [h.len]; exact hi
    have := (h.2.1 i hil).2.1
    unfold PGa.pr
    simpa [List.getD, hil] using this)
  clear h
  obtain ⟨Q, hQ⟩ : ∃ Q, w.heap.size = Q := ⟨_, rfl⟩
  have HQ := Lib.hid hQ
  go_enter Try.func17, Try.ntmps17
  go_upto_region 2 with fail
  have R4 : Hid (Rw (w.alloc (.cells (madeCells #[.int .i64 0] n) 3)) Q n (List.replicate n 0)) := Lib.hid (by rw [← hQ]; exact Rw.of_row (made_row w _ n rfl (by omega)) List.length_replicate)
  have B4 : Hid (Below w.heap.size w (w.alloc (.cells (madeCells #[.int .i64 0] n) 3))) := Lib.hid ((Below.refl _ _).alloc (Nat.le_refl _) _)
  have S4 : Hid (Q < (w.alloc (.cells (madeCells #[.int .i64 0] n) 3)).heap.size) := Lib.hid (by simp [hQ])
  generalize w.alloc (.cells (madeCells #[.int .i64 0] n) 3) = w4 at *
  clear hmk hQ
  go_wp2_with fail
  go_loopw [11] (fun i wr => ∃ (k : Nat) (q : List Int), k ≤ n ∧ i = .int .i64 k ∧ Hid (Rw wr Q n q) ∧ Hid (∀ t, t < k → q.getD t 0 = PGa.pr l t) ∧ Hid (Q < wr.heap.size) ∧ Hid (Below w.heap.size w wr)) (fun i _ => n - (intOf i).toNat)
  case atStart => exact ⟨0, _, Nat.zero_le _, rfl, R4, (show Hid _ from fun t ht => by omega), S4, B4⟩
  case round =>
    clear R4 B4 S4
    obtain ⟨k, q, hk, rfl, HR, HP, HS, HW⟩ := hrel
    by_cases hlt : k < n
    · obtain ⟨b, off, rfl, hc⟩ := (H.out.on HW.out).cells hlt
      have hkl : k < l.length := by rw [hl.out]; exact hlt
      obtain ⟨d0, d1, d2, d3⟩ := hc k hkl
      obtain ⟨o, ho⟩ : ∃ o, l[k] = o := ⟨_, rfl⟩
      rw [ho] at d0 d1 d2 d3
      have HPO : Hid (PGa.pr l k = o.p) := Lib.hid (by unfold PGa.pr; rw [← ho]; simp [List.getD, hkl])
      have i1 : (0 : Int) ≤ (k : Int) := by omega
      have i2 : (k : Int) < (n : Int) := by omega
      clear hc ho
      obtain ⟨oc, op, ocl, oba⟩ := o
      go_upto_region 5 with fail
      have b6 : Below wr.heap.size wr (wr.alloc (.cells #[.int .i64 oc, .int .i64 op, .int .i64 ocl, .int .i64 oba] 35)) := (Below.refl _ _).alloc (Nat.le_refl _) _
      have XA6 := Lib.hid (Box.new wr 35 [.int .i64 oc, .int .i64 op, .int .i64 ocl, .int .i64 oba])
      have R6 := Lib.hid (HR.out.on b6); have B6 := Lib.hid (below_step HW.out b6); have S6 := Lib.hid (Nat.lt_of_lt_of_le HS.out b6.size)
      obtain ⟨D, hD⟩ : ∃ D, wr.heap.size = D := ⟨_, rfl⟩
      rw [hD] at XA6 ⊢
      generalize wr.alloc (.cells [.int .i64 oc, .int .i64 op, .int .i64 ocl, .int .i64 oba].toArray 35) = w6 at *
      clear b6 d0 d1 d2 d3 hD
      have a1 := XA6.out.c 1 rfl
      have c1 := (R6.out.2 k hlt).1; have c2 := (R6.out.2 k hlt).2
      go_upto_region 6 with fail
      have R7 : Hid (Rw (w6.setCell ⟨Q, k, none⟩ (.int .i64 op)) Q n (q.set k op)) := Lib.hid (R6.out.set hlt op)
      have B7 : Hid (Below w.heap.size w (w6.setCell ⟨Q, k, none⟩ (.int .i64 op))) := Lib.hid (B6.out.setCell (by rw [HQ.out]; exact Nat.le_refl _) _)
      have S7 : Hid (Q < (w6.setCell ⟨Q, k, none⟩ (.int .i64 op)).heap.size) := Lib.hid (by simp only [World.size_setCell]; exact S6.out)
      have P7 : Hid (∀ t, t < k + 1 → (q.set k op).getD t 0 = PGa.pr l t) := Lib.hid (fun t ht => by
        rw [set_get R6.out.1 hlt]
        by_cases e : t = k
        · subst e; rw [if_pos rfl, HPO.out]
        · rw [if_neg e, HP.out t (by omega)])
      clear a1 c1 c2
      go_wp2_with fail
      exact ⟨⟨k + 1, _, by omega, by congr 1, R7, P7, S7, B7⟩, by simp [intOf]; omega⟩
    · obtain rfl : k = n := by omega
      have hq := HR.out.1
      have hi : In64 q := fun i h => by rw [HP.out i (by omega)]; exact HI.out i (by omega)
      have hH : Go.Sort.Holds (Value.int .i64) wr Q 0 q.toArray := fun j hj => by
        have hj' : j < k := by simpa [hq] using hj
        have := HR.out.2 j hj'
        rw [Nat.zero_add]
        refine ⟨?_, this.2⟩
        rw [this.1]
        simp [List.getD, getElem!_pos, show j < q.length by omega]
      have CS : Hid (Calls Try.prog 26 #[.slice (some ⟨Q, 0, none⟩) k k] wr fun e w' => e = .returned (.tuple #[]) ∧ ∃ n os, w' = Go.Sort.grow (Go.Sort.putRow (Value.int .i64) (Go.Sort.ahead wr n) Q 0 (q.mergeSort fun x y => decide (x ≤ y)).toArray) os) := Lib.hid (by
        have := Try.slices_Sort_int Q 0 k q wr hH HS.out (by omega)
        rw [hq] at this
        exact this)
      have hls : (q.mergeSort fun x y => decide (x ≤ y)).length = k := by rw [List.length_mergeSort, hq]
      have CC : Hid (∀ n os, Calls Try.prog 27 #[.slice (some ⟨Q, 0, none⟩) k k] (Go.Sort.grow (Go.Sort.putRow (Value.int .i64) (Go.Sort.ahead wr n) Q 0 (q.mergeSort fun x y => decide (x ≤ y)).toArray) os) (PrioR l w)) := Lib.hid (fun n os => by
        have hH1 : Go.Sort.Holds (Value.int .i64) (Go.Sort.grow (Go.Sort.putRow (Value.int .i64) (Go.Sort.ahead wr n) Q 0 (q.mergeSort fun x y => decide (x ≤ y)).toArray) os) Q 0 (q.mergeSort fun x y => decide (x ≤ y)).toArray :=
          Go.Sort.holds_grow _ _ os Q 0 _ (by simpa [Go.Sort.putRow, Go.Sort.mapBlock, Go.Sort.ahead] using HS.out) (Go.Sort.holds_putRow _ _ Q 0 _ _ (Go.Sort.holds_ahead _ wr n Q 0 _ hH) (by simp))
        have := Try.slices_Compact_int Q 0 k _ _ hH1 (by omega) (by omega)
        rw [hls] at this
        refine this.mono fun e w3 ⟨he, qq, hw3⟩ => ⟨_, _, _, Lib.compact (q.mergeSort fun x y => decide (x ≤ y)), he, ?_⟩
        exact prios_of hn hq (by rw [hl.out]) (fun i hi' => HP.out i hi') (by rw [HQ.out]; exact Nat.le_refl _) HW.out HS.out hH hi (by rw [hls]; exact hw3))
      clear hH hi hls hq
      go_wp2_with fail
      refine CS.out.mono ?_
      rintro _ w5 ⟨rfl, n5, os5, rfl⟩
      go_wp2_with fail
      refine (CC.out _ _).mono ?_
      rintro _ w6 ⟨P, m, c, ps, rfl, hP⟩
      have HPR := Lib.hid hP
      clear hP
      go_wp2_with fail
      go_ret
      exact ⟨P, m, c, ps, rfl, HPR.out⟩
end Go.Proofs.Ytmmgejgmlhhfdaa

namespace PSplit
open Go.Proofs.Ytmmgejgmlhhfdaa
def wlist (f : Nat → Nat) (k : Nat) : List Int := (List.range k).map (fun i => ((f i : Nat) : Int))
theorem wlist_len (f : Nat → Nat) (k : Nat) : (wlist f k).length = k := by simp [wlist]
theorem wlist_get {f : Nat → Nat} {k i : Nat} (h : i < k) : (wlist f k).getD i 0 = ((f i : Nat) : Int) := by simp [wlist, List.getD, h]
theorem wlist_next (f : Nat → Nat) (k : Nat) : wlist f k ++ [((f k : Nat) : Int)] = wlist f (k + 1) := by simp [wlist, List.range_succ]
theorem sumFrom_nat {f : Nat → Nat} : ∀ {k : Nat}, sumN f k ≤ 9223372036854775807 → sumFrom 0 (wlist f k) = some ((sumN f k : Nat) : Int) := by
  intro k
  induction k with
  | zero => intro _; rfl
  | succ k ih =>
    intro h
    simp only [sumN] at h
    rw [← wlist_next, sumFrom_append, ih (by omega)]
    show sumFrom ((sumN f k : Nat) : Int) [((f k : Nat) : Int)] = _
    simp only [sumFrom]
    rw [if_pos (by unfold Adds; omega)]
    simp only [sumN]
    rw [Int.natCast_add]
end PSplit
namespace Go.Proofs.Ytmmgejgmlhhfdaa
open Go.RowKit

/-- Orders that are not refused. -/
def PGa.Ok (l : List PGa.Ord) : Prop := ∀ i (h : i < l.length), (0 ≤ l[i].cl ∧ l[i].cl ≤ 1125899906842624) ∧ 0 ≤ l[i].ba ∧ l[i].ba ≤ 1125899906842624
theorem PGa.Ok.wn {l : List PGa.Ord} (h : PGa.Ok l) {i : Nat} (hi : i < l.length) : ((PGa.wn l i : Nat) : Int) = min l[i].cl l[i].ba := by
  have := h i hi
  unfold PGa.wn
  simp only [List.getD, List.getElem?_eq_getElem hi, Option.getD_some]
  omega
theorem PGa.Ok.wn_le {l : List PGa.Ord} (h : PGa.Ok l) (i : Nat) : PGa.wn l i ≤ 1125899906842624 := by
  by_cases hi : i < l.length
  · have := h.wn hi; have := h i hi; omega
  · unfold PGa.wn; rw [List.getD, List.getElem?_eq_none (by omega)]; decide
theorem PGa.Ok.grp_le {l : List PGa.Ord} (h : PGa.Ok l) (p : Int) (i : Nat) : PGa.grp l p i ≤ 1125899906842624 := by
  unfold PGa.grp; split
  · exact h.wn_le i
  · omega
theorem sumN_upto_const {f : Nat → Nat} {v : Nat} (h : ∀ i, f i ≤ v) : ∀ n, PSplit.sumN f n ≤ n * v
  | 0 => by simp [PSplit.sumN]
  | n + 1 => by have := sumN_upto_const h n; have := h n; simp only [PSplit.sumN, Nat.succ_mul]; omega
theorem PGa.Ok.at_le {l : List PGa.Ord} (h : PGa.Ok l) (hn : l.length ≤ 8) (p : Int) {k : Nat} (hk : k ≤ l.length) : PSplit.sumN (PGa.grp l p) k ≤ 9007199254740992 := by
  have := sumN_upto_const (fun i => h.grp_le p i) k
  omega

/-- A slice in a block that is new. -/
def NewR (n : Nat) (l : List Int) (w : World) (e : Ending) (w' : World) : Prop := e = .returned (.slice (some ⟨w.heap.size, 0, none⟩) n n) ∧ Sl w' (some ⟨w.heap.size, 0, none⟩) n l ∧ Below w.heap.size w w'

set_option maxHeartbeats 3200000 in
set_option maxRecDepth 100000 in
theorem wants_any {A : Option Addr} {n cap : Nat} {l : List PGa.Ord} {w : World} {p : Int} (h : SlO w A n l) (hn : n ≤ 8) (hok : PGa.Ok l) :
    Calls Try.prog 19 #[.slice A n cap, .int .i64 p] w (NewR n (PSplit.wlist (PGa.grp l p) n) w) := by
  have H := Lib.hid h
  have hl := Lib.hid h.len
  have HOK := Lib.hid hok
  have hmk := make_row n (by omega)
  clear h hok
  obtain ⟨Q, hQ⟩ : ∃ Q, w.heap.size = Q := ⟨_, rfl⟩
  have HQ := Lib.hid hQ
  go_enter Try.func19, Try.ntmps19
  go_upto_region 2 with fail
  have R4 : Hid (Rw (w.alloc (.cells (madeCells #[.int .i64 0] n) 3)) Q n (List.replicate n 0)) := Lib.hid (by rw [← hQ]; exact Rw.of_row (made_row w _ n rfl (by omega)) List.length_replicate)
  have B4 : Hid (Below w.heap.size w (w.alloc (.cells (madeCells #[.int .i64 0] n) 3))) := Lib.hid ((Below.refl _ _).alloc (Nat.le_refl _) _)
  generalize w.alloc (.cells (madeCells #[.int .i64 0] n) 3) = w4 at *
  clear hmk hQ
  go_wp2_with fail
  go_loopw [13] (fun i wr => ∃ (k : Nat) (q : List Int), k ≤ n ∧ i = .int .i64 k ∧ Hid (Rw wr Q n q) ∧ Hid (∀ t, t < n → q.getD t 0 = if t < k then ((PGa.grp l p t : Nat) : Int) else 0) ∧ Hid (Below w.heap.size w wr)) (fun i _ => n - (intOf i).toNat)
  case atStart => exact ⟨0, _, Nat.zero_le _, rfl, R4, (show Hid _ from fun t ht => by rw [if_neg (by omega)]; simp [List.getD, ht]), B4⟩
  case round =>
    clear R4 B4
    obtain ⟨k, q, hk, rfl, HR, HP, HW⟩ := hrel
    by_cases hlt : k < n
    · obtain ⟨b, off, rfl, hc⟩ := (H.out.on HW.out).cells hlt
      have hkl : k < l.length := by rw [hl.out]; exact hlt
      obtain ⟨d0, d1, d2, d3⟩ := hc k hkl
      have hwn := HOK.out.wn hkl
      obtain ⟨o, ho⟩ : ∃ o, l[k] = o := ⟨_, rfl⟩
      rw [ho] at d0 d1 d2 d3 hwn
      have hpo : PGa.pr l k = o.p := by unfold PGa.pr; rw [← ho]; simp [List.getD, hkl]
      have i1 : (0 : Int) ≤ (k : Int) := by omega
      have i2 : (k : Int) < (n : Int) := by omega
      clear hc ho
      obtain ⟨oc, op, ocl, oba⟩ := o
      have HWN := Lib.hid hwn; have HPO := Lib.hid hpo
      clear hwn hpo
      go_upto_region 5 with fail
      have b6 : Below wr.heap.size wr (wr.alloc (.cells #[.int .i64 oc, .int .i64 op, .int .i64 ocl, .int .i64 oba] 35)) := (Below.refl _ _).alloc (Nat.le_refl _) _
      have XA6 := Lib.hid (Box.new wr 35 [.int .i64 oc, .int .i64 op, .int .i64 ocl, .int .i64 oba])
      have R6 := Lib.hid (HR.out.on b6); have B6 := Lib.hid (below_step HW.out b6)
      obtain ⟨D, hD⟩ : ∃ D, wr.heap.size = D := ⟨_, rfl⟩
      rw [hD] at XA6 ⊢
      generalize wr.alloc (.cells [.int .i64 oc, .int .i64 op, .int .i64 ocl, .int .i64 oba].toArray 35) = w6 at *
      clear b6 d0 d1 d2 d3 hD
      have a1 := XA6.out.c 1 rfl; have a2 := XA6.out.c 2 rfl; have a3 := XA6.out.c 3 rfl
      by_cases hp : op = p
      · have e1 : (op == p) = true := by rw [hp]; exact beq_self_eq_true _
        obtain ⟨v, hv⟩ : ∃ v, min ocl oba = v := ⟨_, rfl⟩
        have HV : Hid (((PGa.grp l p k : Nat) : Int) = v) := Lib.hid (by unfold PGa.grp; rw [if_pos (by rw [HPO.out]; exact hp), HWN.out, hv])
        have c1 := (R6.out.2 k hlt).1; have c2 := (R6.out.2 k hlt).2
        clear hp
        go_upto_region 7 with fail
        have R7 : Hid (Rw (w6.setCell ⟨Q, k, none⟩ (.int .i64 v)) Q n (q.set k v)) := Lib.hid (R6.out.set hlt v)
        have B7 : Hid (Below w.heap.size w (w6.setCell ⟨Q, k, none⟩ (.int .i64 v))) := Lib.hid (B6.out.setCell (by rw [HQ.out]; exact Nat.le_refl _) _)
        have P7 : Hid (∀ t, t < n → (q.set k v).getD t 0 = if t < k + 1 then ((PGa.grp l p t : Nat) : Int) else 0) := Lib.hid (fun t ht => by
          rw [set_get R6.out.1 hlt]
          by_cases e : t = k
          · subst e; rw [if_pos rfl, if_pos (by omega), HV.out]
          · rw [if_neg e, HP.out t ht]
            by_cases h : t < k
            · rw [if_pos h, if_pos (by omega)]
            · rw [if_neg h, if_neg (by omega)])
        clear a1 a2 a3 c1 c2
        go_wp2_with fail
        exact ⟨⟨k + 1, _, by omega, by congr 1, R7, P7, B7⟩, by simp [intOf]; omega⟩
      · have e1 : (op == p) = false := beq_eq_false_iff_ne.2 hp
        have P7 : Hid (∀ t, t < n → q.getD t 0 = if t < k + 1 then ((PGa.grp l p t : Nat) : Int) else 0) := Lib.hid (fun t ht => by
          rw [HP.out t ht]
          by_cases e : t = k
          · subst e
            rw [if_neg (by omega), if_pos (by omega)]
            unfold PGa.grp
            rw [if_neg (by rw [HPO.out]; exact hp)]
            rfl
          · by_cases h : t < k
            · rw [if_pos h, if_pos (by omega)]
            · rw [if_neg h, if_neg (by omega)])
        clear hp
        go_wp2_with fail
        exact ⟨⟨k + 1, _, by omega, by congr 1, R6, P7, B6⟩, by simp [intOf]; omega⟩
    · obtain rfl : k = n := by omega
      have HS : Hid (Sl wr (some ⟨Q, 0, none⟩) k (PSplit.wlist (PGa.grp l p) k)) := Lib.hid (HR.out.sl (PSplit.wlist_len _ _) (fun t ht => by rw [HP.out t ht, if_pos ht, PSplit.wlist_get ht]) (fun i hi => by
        rw [PSplit.wlist_len] at hi
        rw [PSplit.wlist_get hi]
        have := HOK.out.grp_le p i
        omega) (by omega))
      go_wp2_with fail
      go_ret
      unfold NewR
      rw [HQ.out]
      exact ⟨rfl, HS.out, by rw [← HQ.out]; exact HW.out⟩

/-- What those of one priority are paid: a slice from the block K on. -/
def ShareR (K n : Nat) (l : List Int) (w : World) (e : Ending) (w' : World) : Prop := ∃ B c, e = .returned (.tuple #[.slice B n c, .int .i64 0]) ∧ Sl w' B n l ∧ Below w.heap.size w w' ∧ ∀ ad, B = some ad → K ≤ ad.block

set_option maxHeartbeats 3200000 in
set_option maxRecDepth 100000 in
theorem gashare_any {A : Option Addr} {n cap K R : Nat} {l : List PGa.Ord} {w : World} {p : Int} (hl : l.length = n) (hn : n ≤ 8) (hok : PGa.Ok l) (hA : Sl w A n (PSplit.wlist (PGa.grp l p) n)) (hK : ∀ ad, A = some ad → K ≤ ad.block) (hKw : K ≤ w.heap.size) (hR : R ≤ 9007199254740992) :
    Calls Try.prog 18 #[.int .i64 R, .slice A n cap] w (ShareR K n (PSplit.wlist (PGa.share R l p) n) w) := by
  have HA := Lib.hid hA
  have HU : Hid (∀ k, k ≤ n → PSplit.sumN (PGa.grp l p) k ≤ 9007199254740992) := Lib.hid (fun k hk => hok.at_le (by omega) p (by omega))
  have HAT : Hid (PSplit.sumN (PGa.grp l p) n = PGa.atP l p) := Lib.hid (by unfold PGa.atP; rw [hl])
  have HR0 : Hid (PGa.atP l p ≤ R → ShareR K n (PSplit.wlist (PGa.share R l p) n) w (.returned (.tuple #[.slice A n cap, .int .i64 0])) w) := Lib.hid (fun h => by
    have e : PSplit.wlist (PGa.share R l p) n = PSplit.wlist (PGa.grp l p) n := by
      unfold PSplit.wlist
      refine List.map_congr_left (fun i _ => ?_)
      unfold PGa.share; rw [if_pos h]
    rw [e]
    exact ⟨A, cap, rfl, hA, Below.refl _ _, hK⟩)
  have HS : Hid (R < PGa.atP l p → Calls Try.prog 28 #[.int .i64 R, .slice A n cap] w (ShareR K n (PSplit.wlist (PGa.share R l p) n) w)) := Lib.hid (fun h => by
    obtain ⟨k, rfl⟩ : ∃ k, n = k + 1 := ⟨n - 1, by
      by_cases h0 : n = 0
      · exfalso; have := HAT.out; rw [h0] at this; simp only [PSplit.sumN] at this; omega
      · omega⟩
    have hu := HU.out _ (Nat.le_refl _)
    have := split_new R (PSplit.sumN (PGa.grp l p) (k + 1)) k (PGa.grp l p) A cap _ w hA (fun i hi => PSplit.wlist_get hi) (by omega) (PSplit.sumFrom_nat (by omega)) rfl (by rw [HAT.out]; omega) (by omega) (by omega)
    refine this.mono ?_
    rintro e w' ⟨B, m, c, rfl, _, _, hs, hb, hf⟩
    have hm : m = k + 1 := by have := hs.1; rw [PSplit.pL_len] at this; exact this.symm
    subst hm
    have e : PSplit.wlist (PGa.share R l p) (k + 1) = PSplit.pL R (PSplit.sumN (PGa.grp l p) (k + 1)) (PGa.grp l p) (k + 1) (k + 1) := by
      unfold PSplit.wlist PSplit.pL
      refine List.map_congr_left (fun i _ => ?_)
      unfold PGa.share; rw [if_neg (by omega), HAT.out, hl]
    rw [e]
    exact ⟨B, c, rfl, hs, hb, fun ad e => Nat.le_trans hKw (hf ad e)⟩)
  clear hl hok hA hK hKw
  go_enter Try.func18, Try.ntmps18
  go_wp2_with fail
  go_loop [6, 11] (fun s i => ∃ (k : Nat), k ≤ n ∧ i = .int .i64 k ∧ s = .int .i64 ((PSplit.sumN (PGa.grp l p) k : Nat) : Int)) (fun _ i => n - (intOf i).toNat)
  case atStart => exact ⟨0, Nat.zero_le _, rfl, rfl⟩
  case round =>
    obtain ⟨k, hk, rfl, rfl⟩ := hrel
    by_cases hlt : k < n
    · obtain ⟨b, off, rfl, hc⟩ : ∃ b off, A = some ⟨b, off, none⟩ ∧ ∀ i, i < n → w.cell? ⟨b, off + i, none⟩ = some (.int .i64 ((PSplit.wlist (PGa.grp l p) n).getD i 0)) := by
        rcases HA.out.2.2.2 with h | h
        · omega
        · exact h
      have c1 := hc k hlt
      rw [PSplit.wlist_get hlt] at c1
      have hu1 := HU.out (k + 1) hlt
      have hu2 : PSplit.sumN (PGa.grp l p) (k + 1) = PSplit.sumN (PGa.grp l p) k + PGa.grp l p k := rfl
      obtain ⟨s, hs⟩ : ∃ s, PSplit.sumN (PGa.grp l p) k = s := ⟨_, rfl⟩
      obtain ⟨g, hg⟩ : ∃ g, PGa.grp l p k = g := ⟨_, rfl⟩
      rw [hs, hg] at hu2
      rw [hg] at c1
      rw [hs]
      have e1 : IntKind.i64.wrap ((s : Int) + (g : Int)) = ((s + g : Nat) : Int) := by rw [IntKind.wrap_i64]; omega
      have HN := Lib.hid hu2
      have i1 : (0 : Int) ≤ (k : Int) := by omega
      have i2 : (k : Int) < (n : Int) := by omega
      clear hc hs hg hu1 hu2
      go_wp2_with fail
      go_round
      case rel => exact ⟨k + 1, by omega, by congr 1, by rw [HN.out]; first | rfl | (congr 1; omega)⟩
      case measure => simp [intOf]; omega
    · obtain rfl : k = n := by omega
      rw [HAT.out]
      by_cases hle : PGa.atP l p ≤ R
      · have HF := Lib.hid (HR0.out hle)
        have i3 : ((PGa.atP l p : Nat) : Int) ≤ (R : Int) := by omega
        clear hle
        go_wp2_with fail
        go_ret2
        exact HF.out
      · have HF := Lib.hid (HS.out (by omega))
        have i3 : ¬ ((PGa.atP l p : Nat) : Int) ≤ (R : Int) := by omega
        clear hle
        go_wp2_with fail
        refine HF.out.mono ?_
        rintro _ w2 ⟨B, c, rfl, hs, hb, hf⟩
        have HX : Hid (ShareR K k (PSplit.wlist (PGa.share R l p) k) w (.returned (.tuple #[.slice B k c, .int .i64 0])) w2) := Lib.hid ⟨B, c, rfl, hs, hb, hf⟩
        clear hs hb hf
        go_wp2_with fail
        go_ret2
        exact HX.out
end Go.Proofs.Ytmmgejgmlhhfdaa

namespace Go.Proofs.Ytmmgejgmlhhfdaa
open Go.RowKit

theorem sl_only {w w' : World} {H n : Nat} {A : Option Addr} {l : List Int} (h : Sl w A n l) (ho : Only H w w') (hne : ∀ ad, A = some ad → ad.block ≠ H) : Sl w' A n l := by
  obtain ⟨h3, h4, h5, h6⟩ := h
  refine ⟨h3, h4, h5, ?_⟩
  rcases h6 with h6 | ⟨b, off, rfl, h7⟩
  · exact .inl h6
  · exact .inr ⟨b, off, rfl, fun k hk => by rw [ho.cell ⟨b, off + k, none⟩ (show b ≠ H from hne ⟨b, off, none⟩ rfl)]; exact h7 k hk⟩
theorem ga_at {w : World} {A : Option Addr} {n : Nat} {l : List Int} (h : Sl w A n l) {i : Nat} (hi : i < n) : ∃ b off, A = some ⟨b, off, none⟩ ∧ ∀ k, k < n → w.cell? ⟨b, off + k, none⟩ = some (.int .i64 (l.getD k 0)) := by
  rcases h.2.2.2 with h | h
  · omega
  · exact h
theorem Prios.least {l : List PGa.Ord} {w w' : World} {P : Option Addr} {m c : Nat} {ps : List Int} (h : Prios l w P m c ps w') {i : Nat} (hi : i < l.length) : 0 < m ∧ ps.getD 0 0 ≤ PGa.pr l i := by
  obtain ⟨j, hj, e⟩ := h.got i hi
  rw [← e]
  by_cases e0 : j = 0
  · subst e0; exact ⟨hj, Int.le_refl _⟩
  · exact ⟨by omega, Int.le_of_lt (h.up 0 j (by omega) hj)⟩
theorem Prios.next_below {l : List PGa.Ord} {w w' : World} {P : Option Addr} {m c : Nat} {ps : List Int} (h : Prios l w P m c ps w') {k : Nat} (hk : k + 1 < m) : PGa.below l (ps.getD (k + 1) 0) = PGa.below l (ps.getD k 0) + PGa.atP l (ps.getD k 0) :=
  PGa.below_next (h.up k (k + 1) (by omega) hk) (fun i hi hlt2 => by
    obtain ⟨t, ht, e⟩ := h.got i hi
    rw [← e] at hlt2 ⊢
    by_cases h1 : t ≤ k
    · by_cases h2 : t = k
      · subst h2; exact Int.le_refl _
      · exact Int.le_of_lt (h.up t k (by omega) (by omega))
    · exfalso
      by_cases h2 : t = k + 1
      · subst h2; omega
      · have := h.up (k + 1) t (by omega) ht; omega)
theorem Prios.next_val {l : List PGa.Ord} {w w' : World} {P : Option Addr} {m c : Nat} {ps : List Int} (h : Prios l w P m c ps w') {k : Nat} (hlt : k < m) {i T R : Nat} (hi : i < l.length) (hR : R = T - PGa.below l (ps.getD k 0)) :
    (if ps.getD k 0 ≤ PGa.pr l i then 0 else ((PGa.served T l i : Nat) : Int)) + ((PGa.share R l (ps.getD k 0) i : Nat) : Int) = if k + 1 < m ∧ ps.getD (k + 1) 0 ≤ PGa.pr l i then 0 else ((PGa.served T l i : Nat) : Int) := by
  obtain ⟨t, ht, e⟩ := h.got i hi
  have hup : k + 1 < m → ps.getD k 0 < ps.getD (k + 1) 0 := fun h1 => h.up k (k + 1) (by omega) h1
  obtain ⟨p, hp⟩ : ∃ p, ps.getD k 0 = p := ⟨_, rfl⟩
  rw [hp] at hR hup ⊢
  by_cases h1 : PGa.pr l i < p
  · rw [if_neg (by omega), PGa.share_none (by omega), if_neg (fun h2 => by have := hup h2.1; omega)]
    simp
  · rw [if_pos (by omega)]
    by_cases h2 : PGa.pr l i = p
    · rw [if_neg (fun h3 => by have := hup h3.1; omega), PGa.served_share, h2, ← hR]
      simp
    · rw [PGa.share_none h2]
      have h3 : k < t := by
        by_cases h4 : t ≤ k
        · exfalso
          by_cases h5 : t = k
          · subst h5; omega
          · have := h.up t k (by omega) hlt; omega
        · omega
      rw [if_pos ⟨by omega, by
        rw [← e]
        by_cases h5 : t = k + 1
        · subst h5; exact Int.le_refl _
        · exact Int.le_of_lt (h.up (k + 1) t (by omega) ht)⟩]
      rfl
/-- What there is. -/
def PGa.there (net prot : Int) : Nat := (max (net - prot) 0).toNat
theorem PGa.err_ok {net prot : Int} {l : List PGa.Ord} (h : PGa.err net prot l = 0) : l.length ≤ 8 ∧ 0 ≤ prot ∧ prot ≤ 1125899906842624 ∧ -1125899906842624 ≤ net ∧ net ≤ 1125899906842624 ∧ PGa.Ok l := by
  unfold PGa.err at h
  by_cases h8 : 8 < l.length
  · rw [if_pos h8] at h; cases h
  · rw [if_neg h8] at h
    by_cases h1 : prot < 0 ∨ l.any PGa.low = true
    · rw [if_pos h1] at h; cases h
    · rw [if_neg h1] at h
      by_cases h2 : (net < -1125899906842624 ∨ 1125899906842624 < net) ∨ 1125899906842624 < prot ∨ l.any PGa.over = true
      · rw [if_pos h2] at h; cases h
      · refine ⟨by omega, by omega, by omega, by omega, by omega, fun i hi => ?_⟩
        have a1 : PGa.low l[i] = false := Bool.eq_false_iff.2 (fun k => h1 (.inr (List.any_eq_true.2 ⟨_, List.getElem_mem hi, k⟩)))
        have a2 : PGa.over l[i] = false := Bool.eq_false_iff.2 (fun k => h2 (.inr (.inr (List.any_eq_true.2 ⟨_, List.getElem_mem hi, k⟩))))
        unfold PGa.low at a1
        unfold PGa.over at a2
        simp at a1 a2
        omega
/-- What is served: a list in a block that is new. -/
def ServeR (n : Nat) (l : List Int) (w : World) (e : Ending) (w' : World) : Prop := ∃ B, e = .returned (.tuple #[.slice (some ⟨B, 0, none⟩) n n, .int .i64 0]) ∧ w.heap.size ≤ B ∧ Sl w' (some ⟨B, 0, none⟩) n l ∧ Below w.heap.size w w'

set_option maxHeartbeats 3200000 in
theorem gaserve_no {A : Option Addr} {n cap : Nat} {l : List PGa.Ord} {w : World} {net prot : Int} (h : SlO w A n l) (he : PGa.err net prot l ≠ 0) :
    Calls Try.prog 11 #[.int .i64 net, .int .i64 prot, .slice A n cap] w fun e w' => e = .returned (.tuple #[.slice none 0 0, .int .i64 (PGa.err net prot l)]) ∧ Below w.heap.size w w' := by
  have HF := Lib.hid (gafault_any (cap := cap) (net := net) (prot := prot) h)
  obtain ⟨E, hE⟩ : ∃ E, PGa.err net prot l = E := ⟨_, rfl⟩
  rw [hE] at HF he ⊢
  have e0 : (E != 0) = true := bne_iff_ne.2 he
  clear h he hE
  go_enter Try.func11, Try.ntmps11
  go_wp2_with fail
  refine HF.out.mono ?_
  rintro _ w2 ⟨rfl, b2⟩
  have B2 := Lib.hid b2
  clear b2
  go_wp2_with fail
  go_ret2
  exact ⟨rfl, B2.out⟩

set_option maxHeartbeats 6400000 in
set_option maxRecDepth 100000 in
theorem gaserve_yes {A : Option Addr} {n cap : Nat} {l : List PGa.Ord} {w : World} {net prot : Int} (h : SlO w A n l) (he : PGa.err net prot l = 0) :
    Calls Try.prog 11 #[.int .i64 net, .int .i64 prot, .slice A n cap] w (ServeR n (PSplit.wlist (PGa.served (PGa.there net prot) l) n) w) := by
  have hF := gafault_any (cap := cap) (net := net) (prot := prot) h
  rw [he] at hF
  have HF := Lib.hid hF
  obtain ⟨h8, p0, p1, n0, n1, hok⟩ := PGa.err_ok he
  have hlen := h.len
  have hn : n ≤ 8 := by omega
  have H := Lib.hid h
  have hl := Lib.hid hlen
  have HOK := Lib.hid hok
  obtain ⟨T, hT⟩ : ∃ T, PGa.there net prot = T := ⟨_, rfl⟩
  rw [hT]
  have hTI : max (net - prot) 0 = (T : Int) := by rw [← hT]; unfold PGa.there; omega
  have hT51 : T ≤ 1125899906842624 := by omega
  have hsub : IntKind.i64.wrap (net - prot) = net - prot := by rw [IntKind.wrap_i64]; omega
  have hmk := make_row n (by omega)
  have CP : Hid (∀ w', Below w.heap.size w w' → Calls Try.prog 17 #[.slice A n cap] w' (PrioR l w')) := Lib.hid (fun w' hb => prio_any (h.on hb) hn)
  have CW : Hid (∀ w' p, Below w.heap.size w w' → Calls Try.prog 19 #[.slice A n cap, .int .i64 p] w' (NewR n (PSplit.wlist (PGa.grp l p) n) w')) := Lib.hid (fun w' p hb => wants_any (h.on hb) hn hok)
  have CS : Hid (∀ w' B p R, Sl w' (some ⟨B, 0, none⟩) n (PSplit.wlist (PGa.grp l p) n) → B ≤ w'.heap.size → R ≤ 1125899906842624 → Calls Try.prog 18 #[.int .i64 (R : Nat), .slice (some ⟨B, 0, none⟩) n n] w' (ShareR B n (PSplit.wlist (PGa.share R l p) n) w')) := Lib.hid (fun w' B p R hs hB hR => gashare_any hlen hn hok hs (fun ad e => by cases e; exact Nat.le_refl _) hB (by omega))
  clear h he h8 hok hF hT hlen p0 p1 n0 n1
  go_enter Try.func11, Try.ntmps11
  go_wp2_with fail
  refine HF.out.mono ?_
  rintro _ w2 ⟨rfl, b2⟩
  have B2 := Lib.hid b2
  clear b2 HF
  go_upto_region 5 with fail
  obtain ⟨Q, hQ⟩ : ∃ Q, w2.heap.size = Q := ⟨_, rfl⟩
  have HQ : Hid (w.heap.size ≤ Q) := Lib.hid (by rw [← hQ]; exact B2.out.size)
  have R4 : Hid (Rw (w2.alloc (.cells (madeCells #[.int .i64 0] n) 3)) Q n (List.replicate n 0)) := Lib.hid (by rw [← hQ]; exact Rw.of_row (made_row w2 _ n rfl (by omega)) List.length_replicate)
  have B4 : Hid (Below w.heap.size w (w2.alloc (.cells (madeCells #[.int .i64 0] n) 3))) := Lib.hid (below_step B2.out ((Below.refl _ _).alloc (Nat.le_refl _) _))
  have S4 : Hid (Q < (w2.alloc (.cells (madeCells #[.int .i64 0] n) 3)).heap.size) := Lib.hid (by simp [hQ])
  (try rw [hQ])
  generalize w2.alloc (.cells (madeCells #[.int .i64 0] n) 3) = w4 at *
  clear hmk hQ B2
  go_wp2_with fail
  refine (CP.out _ B4.out).mono ?_
  rintro _ w5 ⟨P, m, c, ps, rfl, hP⟩
  have HP := Lib.hid hP
  have R5 := Lib.hid (R4.out.on hP.below); have B5 := Lib.hid (below_step B4.out hP.below); have S5 := Lib.hid (Nat.lt_of_lt_of_le S4.out hP.below.size)
  have NP : Hid (∀ ad, P = some ad → Q < ad.block) := Lib.hid (fun ad e => Nat.lt_of_lt_of_le S4.out (hP.fresh ad e))
  have SP := Lib.hid hP.sl
  have hm8 : m ≤ 8 := by have := hP.few; have := hl.out; omega
  clear hP R4 B4 S4 CP hTI hsub
  go_wp2_with fail
  go_loopw [10, 34] (fun L i wr => ∃ (k R : Nat) (q : List Int), k ≤ m ∧ L = .int .i64 (R : Int) ∧ i = .int .i64 k ∧ R ≤ T ∧ Hid (k < m → R = T - PGa.below l (ps.getD k 0)) ∧ Hid (Rw wr Q n q) ∧
      Hid (∀ i, i < n → q.getD i 0 = if k < m ∧ ps.getD k 0 ≤ PGa.pr l i then 0 else ((PGa.served T l i : Nat) : Int)) ∧ Hid (Sl wr P m ps) ∧ Hid (Q < wr.heap.size) ∧ Hid (Below w.heap.size w wr)) (fun _ i _ => m - (intOf i).toNat)
  case atStart =>
    refine ⟨0, T, _, Nat.zero_le _, rfl, rfl, Nat.le_refl _, (show Hid _ from fun h => ?_), R5, (show Hid _ from fun i hi => ?_), SP, S5, B5⟩
    · rw [PGa.below_first (fun i hi => (HP.out.least hi).2), Nat.sub_zero]
    · rw [if_pos (HP.out.least (by rw [hl.out]; exact hi)), List.getD, List.getElem?_replicate, if_pos hi]; rfl
  case round =>
    clear R5 B5 S5 SP
    obtain ⟨k, R, q, hk, rfl, rfl, hRT, HRB, HR, HQV, SP, S5, B5⟩ := hrel
    by_cases hlt : k < m
    · obtain ⟨bP, off, rfl, hc⟩ := ga_at SP.out hlt
      have c1 := hc k hlt
      obtain ⟨p, hp⟩ : ∃ p, ps.getD k 0 = p := ⟨_, rfl⟩
      rw [hp] at c1
      have i1 : (0 : Int) ≤ (k : Int) := by omega
      have i2 : (k : Int) < (m : Int) := by omega
      have hRB := HRB.out hlt
      rw [hp] at hRB
      have HPP := Lib.hid hp
      have HQ2 : Hid (∀ i, i < n → q.getD i 0 = if p ≤ PGa.pr l i then 0 else ((PGa.served T l i : Nat) : Int)) := Lib.hid (fun i hi => by
        rw [HQV.out i hi, hp]
        by_cases h : p ≤ PGa.pr l i
        · rw [if_pos ⟨hlt, h⟩, if_pos h]
        · rw [if_neg (fun k => h k.2), if_neg h])
      have HRB2 := Lib.hid hRB
      clear hc hp hRB HQV HRB
      go_wp2_with fail
      refine (CW.out _ p B5.out).mono ?_
      rintro _ w6 ⟨rfl, s6, b6⟩
      have C6 := Lib.hid (CS.out w6 wr.heap.size p R s6 b6.size (by omega))
      have R6 := Lib.hid (HR.out.on b6); have B6 := Lib.hid (below_step B5.out b6); have S6 := Lib.hid (Nat.lt_of_lt_of_le S5.out b6.size); have SP6 := Lib.hid (SP.out.on b6)
      clear s6 b6 c1
      go_wp2_with fail
      refine C6.out.mono ?_
      rintro _ w7 ⟨B, cB, rfl, s7, b7, f7⟩
      have S7P := Lib.hid s7
      have R7 := Lib.hid (R6.out.on b7); have B7 := Lib.hid (below_step B6.out b7); have S7 := Lib.hid (Nat.lt_of_lt_of_le S6.out b7.size); have SP7 := Lib.hid (SP6.out.on b7)
      have NB : Hid (∀ ad, B = some ad → Q < ad.block) := Lib.hid (fun ad e => Nat.lt_of_lt_of_le S5.out (f7 ad e))
      have HSU : Hid (∀ j, j ≤ n → PSplit.sumN (PGa.share R l p) j ≤ R) := Lib.hid (fun j hj => by
        have h1 := PGa.share_sum R l p
        rw [hl.out] at h1
        have h2 := PSplit.sumN_upto (PGa.share R l p) hj
        omega)
      have HQB : Hid (∀ i, i < n → 0 ≤ q.getD i 0 ∧ q.getD i 0 ≤ 1125899906842624) := Lib.hid (fun i hi => by
        rw [HQ2.out i hi]
        have h1 := PGa.served_le T l i
        have h2 := HOK.out.wn_le i
        split <;> omega)
      clear s7 b7 f7 R6 B6 S6 SP6 C6
      go_wp2_with fail
      go_loopw [10, 51] (fun L i wy => ∃ (j R2 : Nat) (q2 : List Int), j ≤ n ∧ L = .int .i64 (R2 : Int) ∧ i = .int .i64 j ∧ R2 = R - PSplit.sumN (PGa.share R l p) j ∧ Hid (Rw wy Q n q2) ∧ Hid (∀ i, i < n → q2.getD i 0 = if i < j then q.getD i 0 + ((PGa.share R l p i : Nat) : Int) else q.getD i 0) ∧ Hid (Only Q w7 wy)) (fun _ i _ => n - (intOf i).toNat)
      case atStart => exact ⟨0, R, q, Nat.zero_le _, rfl, rfl, rfl, R7, (show Hid _ from fun i hi => by rw [if_neg (by omega)]), (show Hid _ from Only.refl _ _)⟩
      case round =>
        obtain ⟨j, R2, q2, hj, rfl, rfl, hR2, RY, QY, OY⟩ := hrel
        by_cases hjt : j < n
        · have hS := sl_only S7P.out OY.out (fun ad e => by have := NB.out ad e; omega)
          obtain ⟨b8, o8, rfl, h8⟩ := ga_at hS hjt
          have c3 := h8 j hjt
          rw [PSplit.wlist_get hjt] at c3
          have c1 := (RY.out.2 j hjt).1; have c2 := (RY.out.2 j hjt).2
          rw [QY.out j hjt, if_neg (by omega)] at c1
          have hu1 := HSU.out (j + 1) hjt
          have hu2 : PSplit.sumN (PGa.share R l p) (j + 1) = PSplit.sumN (PGa.share R l p) j + PGa.share R l p j := rfl
          have hqb := HQB.out j hjt
          obtain ⟨g, hg⟩ : ∃ g, PGa.share R l p j = g := ⟨_, rfl⟩
          obtain ⟨v, hv⟩ : ∃ v, q.getD j 0 = v := ⟨_, rfl⟩
          rw [hg] at c3 hu2; rw [hv] at c1 hqb
          have e1 : IntKind.i64.wrap (v + (g : Int)) = v + (g : Int) := by rw [IntKind.wrap_i64]; omega
          have e2 : IntKind.i64.wrap ((R2 : Int) - (g : Int)) = ((R2 - g : Nat) : Int) := by rw [IntKind.wrap_i64]; omega
          have i3 : (0 : Int) ≤ (j : Int) := by omega
          have i4 : (j : Int) < (n : Int) := by omega
          have HR3 : Hid (R2 - g = R - PSplit.sumN (PGa.share R l p) (j + 1)) := Lib.hid (by omega)
          have R8 : Hid (Rw (wr.setCell ⟨Q, j, none⟩ (.int .i64 (v + (g : Int)))) Q n (q2.set j (v + (g : Int)))) := Lib.hid (RY.out.set hjt _)
          have O8 : Hid (Only Q w7 (wr.setCell ⟨Q, j, none⟩ (.int .i64 (v + (g : Int))))) := Lib.hid (OY.out.set j _)
          have Q8 : Hid (∀ i, i < n → (q2.set j (v + (g : Int))).getD i 0 = if i < j + 1 then q.getD i 0 + ((PGa.share R l p i : Nat) : Int) else q.getD i 0) := Lib.hid (fun i hi => by
            rw [set_get RY.out.1 hjt]
            by_cases e : i = j
            · subst e; rw [if_pos rfl, if_pos (by omega), hv, hg]
            · rw [if_neg e, QY.out i hi]
              by_cases h : i < j
              · rw [if_pos h, if_pos (by omega)]
              · rw [if_neg h, if_neg (by omega)])
          clear hS h8 hu1 hu2 hqb hg hv hR2
          go_wp2_with fail
          exact ⟨⟨j + 1, R2 - g, _, by omega, rfl, by congr 1, HR3.out, R8, Q8, O8⟩, by simp [intOf]; omega⟩
        · obtain rfl : j = n := by omega
          have B8 := Lib.hid (OY.out.below HQ.out B7.out)
          have S8 : Hid (Q < wr.heap.size) := Lib.hid (by rw [OY.out.size]; exact S7.out)
          have SP8 := Lib.hid (sl_only SP7.out OY.out (fun ad e => by have := NP.out ad e; omega))
          have hsum : PSplit.sumN (PGa.share R l p) j = min R (PGa.atP l p) := by have := PGa.share_sum R l p; rw [hl.out] at this; exact this
          have HN : Hid (k + 1 < m → R2 = T - PGa.below l (ps.getD (k + 1) 0)) := Lib.hid (fun h => by
            have hb := HP.out.next_below h
            rw [HPP.out] at hb
            have := HRB2.out
            omega)
          have HV : Hid (∀ i, i < j → q2.getD i 0 = if k + 1 < m ∧ ps.getD (k + 1) 0 ≤ PGa.pr l i then 0 else ((PGa.served T l i : Nat) : Int)) := Lib.hid (fun i hi => by
            have hv := HP.out.next_val hlt (i := i) (T := T) (R := R) (by rw [hl.out]; exact hi) (by rw [HPP.out]; exact HRB2.out)
            rw [HPP.out] at hv
            rw [QY.out i hi, if_pos hi, HQ2.out i hi]
            exact hv)
          have hR2T : R2 ≤ T := by omega
          clear hR2 hsum
          go_wp2_with fail
          exact ⟨⟨k + 1, R2, q2, by omega, rfl, by congr 1, hR2T, HN, RY, HV, SP8, S8, B8⟩, by simp [intOf]; omega⟩
    · obtain rfl : k = m := by omega
      have HSL : Hid (Sl wr (some ⟨Q, 0, none⟩) n (PSplit.wlist (PGa.served T l) n)) := Lib.hid (HR.out.sl (PSplit.wlist_len _ _) (fun t ht => by rw [HQV.out t ht, if_neg (fun h => by omega), PSplit.wlist_get ht]) (fun i hi => by
        rw [PSplit.wlist_len] at hi
        rw [PSplit.wlist_get hi]
        have h1 := PGa.served_le T l i
        have h2 := HOK.out.wn_le i
        omega) (by omega))
      go_wp2_with fail
      go_ret2
      exact ⟨Q, rfl, HQ.out, HSL.out, B5.out⟩
end Go.Proofs.Ytmmgejgmlhhfdaa

namespace Go.Proofs.Ytmmgejgmlhhfdaa
open Go.RowKit

theorem ord_recTy : RecTy ordR 35 22 32 where
  info := ⟨.agg #[.int .i64 0, .int .i64 0, .int .i64 0, .int .i64 0], by kernel_rfl, rfl⟩
  under := Try.underlying22
  few := by decide
/-- Orders in a block of the call's own. -/
def RwO (w : World) (g : Nat) (L : List PGa.Ord) : Prop := ∀ j v, (ordR.cells L)[j]? = some v → w.cell? ⟨g, j, none⟩ = some v ∧ w.frozen? ⟨g, j, none⟩ = false
theorem RwO.on {w w' : World} {g : Nat} {L : List PGa.Ord} (h : RwO w g L) (hb : Below w.heap.size w w') : RwO w' g L := fun j v e => by
  have hlt := World.block_lt_of_cell? w _ (h j v e).1
  exact ⟨(hb.cell (p := ⟨g, j, none⟩) hlt).trans (h j v e).1, (hb.frozen (p := ⟨g, j, none⟩) hlt).trans (h j v e).2⟩
theorem RwO.at {w : World} {g : Nat} {L : List PGa.Ord} (h : RwO w g L) {i : Nat} (hi : i < L.length) : w.cell? ⟨g, i * 4 + 3, none⟩ = some (.int .i64 L[i].ba) ∧ w.frozen? ⟨g, i * 4 + 3, none⟩ = false :=
  h _ _ (ordR.cells_get L i hi 3 _ rfl)
theorem RwO.store {w : World} {g : Nat} {L : List PGa.Ord} (h : RwO w g L) {i : Nat} (hi : i < L.length) (x : Int) : RwO (w.setCell ⟨g, i * 4 + 3, none⟩ (.int .i64 x)) g (L.set i ⟨L[i].c, L[i].p, L[i].cl, x⟩) := by
  intro j v e
  obtain ⟨i', hi', q, rfl, hq⟩ := ordR.cells_at _ j v e
  have hi2 : i' < L.length := by simpa using hi'
  have hk : ordR.k = 4 := rfl
  rw [hk]
  have hq4 : q < 4 := by have := (List.getElem?_eq_some_iff.1 hq).1; rw [ordR.len] at this; exact this
  have hfr : (w.setCell ⟨g, i * 4 + 3, none⟩ (.int .i64 x)).frozen? ⟨g, i' * 4 + q, none⟩ = w.frozen? ⟨g, i' * 4 + q, none⟩ := frozen_set _ _ _ _
  by_cases hii : i' = i
  · subst hii
    rw [List.getElem_set_self] at hq
    by_cases hq3 : q = 3
    · subst hq3
      have hv : v = .int .i64 x := by simpa [ordR] using hq.symm
      subst hv
      exact ⟨World.cell?_setCell_same _ _ _ (h.at hi2).1, by rw [hfr]; exact (h.at hi2).2⟩
    · have hq2 : (ordR.C L[i'])[q]? = some v := by
        match q, hq4, hq3 with
        | 0, _, _ => exact hq
        | 1, _, _ => exact hq
        | 2, _, _ => exact hq
        | 3, _, h3 => exact absurd rfl h3
      have := h _ _ (ordR.cells_get L i' hi2 q v hq2)
      rw [hk] at this
      exact ⟨by rw [World.cell?_setCell_other _ _ _ _ (by intro c; simp only [Addr.mk.injEq] at c; omega)]; exact this.1, by rw [hfr]; exact this.2⟩
  · rw [List.getElem_set_ne (fun e => hii e.symm)] at hq
    have := h _ _ (ordR.cells_get L i' hi2 q v hq)
    rw [hk] at this
    exact ⟨by rw [World.cell?_setCell_other _ _ _ _ (by intro c; simp only [Addr.mk.injEq] at c; omega)]; exact this.1, by rw [hfr]; exact this.2⟩
theorem RwO.slx {w : World} {g n : Nat} {L : List PGa.Ord} (h : RwO w g L) (hn : L.length = n) : SlX ordR w (some ⟨g, 0, none⟩) n L :=
  ⟨hn, .inr ⟨g, 0, rfl, fun i hi j v e => by rw [Nat.zero_add]; exact (h _ _ (ordR.cells_get L i hi j v e)).1⟩⟩
theorem rwo_of_own {w : World} {base n g cap : Nat} {L : List PGa.Ord} (h : w.ownsRow base 35 4 (.slice (some ⟨g, 0, none⟩) n cap) n (ordR.cells L)) : RwO w g L :=
  fun j v e => ⟨by have := h.cells (g := g) rfl _ _ e; rw [addr_add] at this; exact this, h.frozenAt j⟩

theorem own_none4 (w : World) : (w.alloc (.cells #[] 35)).ownsRow w.heap.size 35 4 (.slice (some ⟨w.heap.size, 0, none⟩) 0 0) 0 (ordR.cells []) := by
  have := World.ownsRow_lit (base := w.heap.size) (e := 35) (size := 4) w #[] 0 (Nat.le_refl _) (by unfold maxLen; omega) (by simp)
  exact this

set_option maxRecDepth 100000 in
/-- A copy: a row of its own. -/
theorem gaclone_some {ad : Addr} {n c : Nat} {l : List PGa.Ord} {w : World} (hs : SlO w (some ad) n l) (hn : n ≤ 900) :
    Calls Try.prog 22 #[.slice (some ad) n c] w fun e w' => ∃ B cap, e = .returned (.slice B n cap) ∧ (B = none → cap = 0 ∧ n = 0) ∧ (∀ ad, B = some ad → ∃ g, ad = ⟨g, 0, none⟩ ∧ w.heap.size ≤ g ∧ RwO w' g l) ∧ Below w.heap.size w w' := by
  have q22 : ∀ (w : World) (a : Option Addr) (n c n' c' : Nat), (binOp .eql 22 (.slice a n c) (.slice none n' c')).run Try.prog w = .ok (.bool a.isNone) w := fun w a n c n' c' => Lib.run_eql_slice_nil w _ _ a n c n' c' Try.underlying22
  have HS2 := Lib.hid ((hs.on ((Below.refl w.heap.size w).alloc (Nat.le_refl _) (.cells #[] 35))).1)
  have HO := Lib.hid (own_none4 w)
  have hl := Lib.hid hs.len
  clear hs
  go_enter Try.func22, Try.ntmps22
  go_wp2_with (at_builtin; refine append_recs ord_recTy rfl _ _ rfl w.heap.size _ [] (by rfl) HO.out (some ad) n c l (by rfl) (fun e => by cases e) HS2.out (by simp; omega) (by simp) ?_)
  intro v' w1 hown hb
  have HO1 := Lib.hid hown
  have B1 := Lib.hid (((Below.refl w.heap.size w).alloc (Nat.le_refl _) (.cells #[] 35)).trans hb)
  obtain ⟨B, cap, rfl, hB, hg⟩ : ∃ B cap, v' = .slice B n cap ∧ (B = none → cap = 0 ∧ n = 0) ∧ (∀ ad, B = some ad → ∃ g, ad = ⟨g, 0, none⟩ ∧ w.heap.size ≤ g ∧ RwO w1 g l) := by
    have hown' : w1.ownsRow w.heap.size 35 4 v' n (ordR.cells l) := by
      exact hown
    rcases hown'.2 with ⟨e, e2⟩ | ⟨g, cap, cur, e, hg, _⟩
    · subst e2; exact ⟨none, 0, e, fun _ => ⟨rfl, rfl⟩, fun ad e => by cases e⟩
    · subst e; exact ⟨_, cap, rfl, (fun e => by cases e), fun ad e => by cases e; exact ⟨g, rfl, hg, rwo_of_own hown'⟩⟩
  have HG := Lib.hid hg; have HB := Lib.hid hB
  clear hown hb HO HS2 HO1 hg hB
  go_wp2_with fail
  go_ret
  exact ⟨B, cap, rfl, HB.out, HG.out, B1.out⟩
/-- What is left of an order. -/
def PGa.cut (o : PGa.Ord) (x : Int) : PGa.Ord := ⟨o.c, o.p, o.cl, o.ba - x⟩
def PGa.PaidOk (l : List PGa.Ord) (ps : List Int) : Prop := ps.length = l.length ∧ ∀ i (h : i < l.length), 0 ≤ ps.getD i 0 ∧ ps.getD i 0 ≤ l[i].ba
/-- The first k orders have been paid. -/
def PGa.CutTo (l : List PGa.Ord) (ps : List Int) (k : Nat) (L : List PGa.Ord) : Prop := L.length = l.length ∧ ∀ i (h : i < l.length) (h2 : i < L.length), L[i] = if i < k then PGa.cut l[i] (ps.getD i 0) else l[i]
theorem PGa.CutTo.next {l L : List PGa.Ord} {ps : List Int} {k : Nat} (h : PGa.CutTo l ps k L) (hk : k < l.length) (hk2 : k < L.length) : PGa.CutTo l ps (k + 1) (L.set k ⟨L[k].c, L[k].p, L[k].cl, l[k].ba - ps.getD k 0⟩) := by
  obtain ⟨h1, h2⟩ := h
  refine ⟨by rw [List.length_set]; exact h1, fun i hi hi2 => ?_⟩
  have hi3 : i < L.length := by simpa using hi2
  by_cases e : i = k
  · subst e
    rw [List.getElem_set_self, if_pos (by omega), h2 i hi hi3, if_neg (by omega)]
    rfl
  · rw [List.getElem_set_ne (fun k => e k.symm), h2 i hi hi3]
    by_cases h : i < k
    · rw [if_pos h, if_pos (by omega)]
    · rw [if_neg h, if_neg (by omega)]
/-- What Paid answers. -/
def PaidC (l : List PGa.Ord) (ps : List Int) (n : Nat) (w : World) (e : Ending) (w' : World) : Prop := Below w.heap.size w w' ∧
  ((PGa.PaidOk l ps ∧ ∃ B c L, e = .returned (.tuple #[.slice B n c, .bool true]) ∧ (B = none → c = 0) ∧ PGa.CutTo l ps n L ∧ SlO w' B n L ∧ ∀ ad, B = some ad → w.heap.size ≤ ad.block) ∨
   (¬ PGa.PaidOk l ps ∧ e = .returned (.tuple #[.slice none 0 0, .bool false])))

set_option maxHeartbeats 3200000 in
set_option maxRecDepth 100000 in
theorem gapaid_any {A P : Option Addr} {n ca np cp : Nat} {l : List PGa.Ord} {ps : List Int} {w : World} (h : SlO w A n l) (hA : A = none → ca = 0) (hn : n ≤ 40) (hp : Sl w P np ps) (hnp : np ≤ 1000) :
    Calls Try.prog 15 #[.slice A n ca, .slice P np cp] w (PaidC l ps n w) := by
  have H := Lib.hid h
  have hlen := h.len
  have hl := Lib.hid hlen
  have HP := Lib.hid hp
  have hpl := hp.1
  by_cases hne : np = n
  · subst hne
    have e0 : ((np : Int) != (np : Int)) = false := bne_self_eq_false _
    have HC : Hid (∀ w', Below w.heap.size w w' → Calls Try.prog 22 #[.slice A np ca] w' fun e w'' => ∃ B cap, e = .returned (.slice B np cap) ∧ (B = none → cap = 0 ∧ np = 0) ∧ (∀ ad, B = some ad → ∃ g, ad = ⟨g, 0, none⟩ ∧ w'.heap.size ≤ g ∧ RwO w'' g l) ∧ Below w'.heap.size w' w'') := Lib.hid (fun w' hb => by
      cases A with
      | some ad => exact gaclone_some (h.on hb) (by omega)
      | none =>
        obtain rfl := hA rfl
        have h0 : np = 0 := by
          rcases h.1.2 with h | ⟨b, off, e, _⟩
          · exact h
          · cases e
        subst h0
        have q22 : ∀ (w : World) (a : Option Addr) (n c n' c' : Nat), (binOp .eql 22 (.slice a n c) (.slice none n' c')).run Try.prog w = .ok (.bool a.isNone) w := fun w a n c n' c' => Lib.run_eql_slice_nil w _ _ a n c n' c' Try.underlying22
        clear h hp H HP hl hlen hpl hb
        go_enter Try.func22, Try.ntmps22
        go_wp2_with fail
        go_ret
        exact ⟨none, 0, rfl, (fun _ => by first | rfl | exact ⟨rfl, rfl⟩), (fun ad e => by cases e), Below.refl _ _⟩)
    have HPL := Lib.hid (show ps.length = l.length by omega)
    clear h hp hpl hlen hA
    go_enter Try.func15, Try.ntmps15
    go_wp2_with fail
    refine (HC.out _ (Below.refl _ _)).mono ?_
    rintro _ w2 ⟨B, cap, rfl, hB, hg, b2⟩
    have HB := Lib.hid hB; have HG := Lib.hid hg; have B2 := Lib.hid b2
    clear hB hg b2 HC
    go_wp2_with fail
    go_loopw [18] (fun i wr => ∃ (k : Nat) (L : List PGa.Ord), k ≤ np ∧ i = .int .i64 k ∧ Hid (PGa.CutTo l ps k L) ∧ Hid (∀ i (h : i < l.length), i < k → 0 ≤ ps.getD i 0 ∧ ps.getD i 0 ≤ l[i].ba) ∧ Hid (∀ ad, B = some ad → ∃ g, ad = ⟨g, 0, none⟩ ∧ w.heap.size ≤ g ∧ RwO wr g L) ∧ Hid (Below w.heap.size w wr)) (fun i _ => np - (intOf i).toNat)
    case atStart => exact ⟨0, l, Nat.zero_le _, rfl, (show Hid _ from ⟨rfl, fun i _ _ => by rw [if_neg (by omega)]⟩), (show Hid _ from fun i _ h => by omega), HG, B2⟩
    case round =>
      clear HG B2
      obtain ⟨k, L, hk, rfl, HL, HK, HG, HW⟩ := hrel
      by_cases hlt : k < np
      · obtain ⟨bP, oP, rfl, hcP⟩ := ga_at (HP.out.on HW.out) hlt
        have c1 := hcP k hlt
        obtain ⟨b, off, rfl, hc⟩ := (H.out.on HW.out).cells hlt
        have hkl : k < l.length := by rw [hl.out]; exact hlt
        obtain ⟨-, -, -, d3⟩ := hc k hkl
        have hin := (H.out.2.1 k hkl).2.2.2
        obtain ⟨x, hx⟩ : ∃ x, ps.getD k 0 = x := ⟨_, rfl⟩
        obtain ⟨y, hy⟩ : ∃ y, l[k].ba = y := ⟨_, rfl⟩
        rw [hx] at c1; rw [hy] at d3 hin
        have HX := Lib.hid hx; have HY := Lib.hid hy
        have i1 : (0 : Int) ≤ (k : Int) := by omega
        have i2 : (k : Int) < (np : Int) := by omega
        clear hc hcP hx hy
        by_cases g1 : x < 0
        · have HF : Hid (¬ PGa.PaidOk l ps) := Lib.hid (fun h => by have := (h.2 k hkl).1; rw [HX.out] at this; omega)
          go_wp2_with fail
          go_ret2
          exact ⟨HW.out, .inr ⟨HF.out, rfl⟩⟩
        by_cases g2 : y < x
        · have HF : Hid (¬ PGa.PaidOk l ps) := Lib.hid (fun h => by have := (h.2 k hkl).2; rw [HX.out, HY.out] at this; omega)
          go_wp2_with fail
          go_ret2
          exact ⟨HW.out, .inr ⟨HF.out, rfl⟩⟩
        · obtain ⟨adB, rfl⟩ : ∃ ad, B = some ad := by
            cases B with
            | none => have := (HB.out rfl).2; omega
            | some ad => exact ⟨ad, rfl⟩
          obtain ⟨g, rfl, hgw, hrw⟩ := HG.out _ rfl
          have hkL : k < L.length := by rw [HL.out.1]; exact hkl
          obtain ⟨c2, c3⟩ := hrw.at hkL
          have hLk : L[k].ba = y := by rw [HL.out.2 k hkl hkL, if_neg (by omega), HY.out]
          rw [hLk] at c2
          have e1 : IntKind.i64.wrap (y - x) = y - x := by rw [IntKind.wrap_i64]; omega
          have HG2 : Hid (∀ ad, some (⟨g, 0, none⟩ : Addr) = some ad → ∃ g', ad = ⟨g', 0, none⟩ ∧ w.heap.size ≤ g' ∧ RwO (wr.setCell ⟨g, k * 4 + 3, none⟩ (.int .i64 (y - x))) g' (L.set k ⟨L[k].c, L[k].p, L[k].cl, y - x⟩)) := Lib.hid (fun ad e => by cases e; exact ⟨g, rfl, hgw, hrw.store hkL _⟩)
          have HW2 : Hid (Below w.heap.size w (wr.setCell ⟨g, k * 4 + 3, none⟩ (.int .i64 (y - x)))) := Lib.hid (HW.out.setCell hgw _)
          have HL2 : Hid (PGa.CutTo l ps (k + 1) (L.set k ⟨L[k].c, L[k].p, L[k].cl, y - x⟩)) := Lib.hid (by have := HL.out.next hkl hkL; rw [HX.out, HY.out] at this; exact this)
          have HK2 : Hid (∀ i (h : i < l.length), i < k + 1 → 0 ≤ ps.getD i 0 ∧ ps.getD i 0 ≤ l[i].ba) := Lib.hid (fun i hi h => by
            by_cases e : i = k
            · subst e; rw [HX.out, HY.out]; omega
            · exact HK.out i hi (by omega))
          clear hrw hLk hin
          go_wp2_with fail
          exact ⟨⟨k + 1, _, by omega, by congr 1, HL2, HK2, HG2, HW2⟩, by simp [intOf]; omega⟩
      · obtain rfl : k = np := by omega
        have HF : Hid (PGa.PaidOk l ps) := Lib.hid ⟨HPL.out, fun i hi => HK.out i hi (by rw [← hl.out]; exact hi)⟩
        have HIN : Hid (∀ i (h : i < L.length), PGa.In L[i]) := Lib.hid (fun i hi => by
          have hil : i < l.length := by rw [← HL.out.1]; exact hi
          have hb := HF.out.2 i hil
          obtain ⟨q1, q2, q3, q4⟩ := H.out.2.1 i hil
          rw [HL.out.2 i hil hi]
          split
          · exact ⟨q1, q2, q3, by unfold PGa.cut; show _ ∧ _; simp only; omega⟩
          · exact ⟨q1, q2, q3, q4⟩)
        have HS : Hid (SlO wr B k L) := Lib.hid (by
          have hLn : L.length = k := by rw [HL.out.1, hl.out]
          refine ⟨?_, HIN.out, by omega⟩
          cases B with
          | none => exact ⟨hLn, .inl (HB.out rfl).2⟩
          | some ad => obtain ⟨g, rfl, _, hr⟩ := HG.out _ rfl; exact hr.slx hLn)
        have HFR : Hid (∀ ad, B = some ad → w.heap.size ≤ ad.block) := Lib.hid (fun ad e => by obtain ⟨g, rfl, hg, _⟩ := HG.out ad e; exact hg)
        have HBC : Hid (B = none → cap = 0) := Lib.hid (fun e => (HB.out e).1)
        go_wp2_with fail
        go_ret2
        exact ⟨HW.out, .inl ⟨HF.out, B, cap, L, rfl, HBC.out, HL.out, HS.out, HFR.out⟩⟩
  · have e0 : ((n : Int) != (np : Int)) = true := by rw [bne_iff_ne]; omega
    have HF : Hid (¬ PGa.PaidOk l ps) := Lib.hid (fun h => hne (by have := h.1; omega))
    clear h hp hpl hlen hne hA
    go_enter Try.func15, Try.ntmps15
    go_wp2_with fail
    go_ret2
    exact ⟨Below.refl _ _, .inr ⟨HF.out, rfl⟩⟩
end Go.Proofs.Ytmmgejgmlhhfdaa

namespace Go.Proofs.Ytmmgejgmlhhfdaa
open Go.RowKit

theorem slo_lit (w : World) (l : List PGa.Ord) (hi : ∀ i (h : i < l.length), PGa.In l[i]) (hl : l.length ≤ 1000) : SlO (w.alloc (.cells (ordR.cells l).toArray 35)) (some ⟨w.heap.size, 0, none⟩) l.length l := by
  refine ⟨⟨rfl, .inr ⟨w.heap.size, 0, rfl, fun i h j v e => ?_⟩⟩, hi, by omega⟩
  rw [World.cell?_alloc_at _ _ _ _ rfl, Nat.zero_add]
  simpa using ordR.cells_get l i h j v e
theorem in64_lit {l : List Int} (h : l.all (fun x => decide (-9223372036854775808 ≤ x) && decide (x ≤ 9223372036854775807)) = true) : In64 l := fun i hi => by
  have : l.getD i 0 ∈ l := by simp [List.getD, hi]
  have := List.all_eq_true.1 h _ this
  simp only [Bool.and_eq_true, decide_eq_true_eq] at this
  exact this
theorem sl_lit15 (w : World) (l : List Int) (hi : l.all (fun x => decide (-9223372036854775808 ≤ x) && decide (x ≤ 9223372036854775807)) = true) (hl : l.length ≤ 1000) : Sl (w.alloc (.cells (cellsOfInts l).toArray 3)) (some ⟨w.heap.size, 0, none⟩) l.length l := by
  have h := World.ownsRow_lit (base := w.heap.size) (e := 3) (size := 1) w (cellsOfInts l).toArray l.length (by omega) (by unfold maxLen; omega) (by simp [cellsOfInts])
  obtain ⟨a, cap, e, _, _, _, hsl⟩ := sl_of_own (l := l) h (in64_lit hi) (by omega)
  injection e with e1
  rw [e1]; exact hsl
def ga3 : List PGa.Ord := [⟨0, 1, 30, 99⟩, ⟨0, 2, 40, 99⟩, ⟨0, 2, 20, 99⟩]
def ga1 : List PGa.Ord := [⟨0, 0, 0, 5⟩]
theorem ga3_in : ∀ o ∈ ga3, PGa.In o := by
  intro o h
  simp [ga3] at h
  rcases h with rfl | rfl | rfl <;> (unfold PGa.In; decide)
theorem ga1_in : ∀ o ∈ ga1, PGa.In o := by
  intro o h
  simp [ga1] at h
  subst h
  unfold PGa.In; decide
theorem ga3_err : PGa.err 100 40 ga3 = 0 := by decide +kernel
theorem ga3_list : PSplit.wlist (PGa.served (PGa.there 100 40) ga3) 3 = [30, 20, 10] := by decide +kernel

set_option maxHeartbeats 3200000 in
theorem awake_any (w : World) : Calls Try.prog 10 #[] w fun e w' => e = .returned (.bool true) ∧ Below w.heap.size w w' := by
  have M1 : Hid (∀ w : World, Calls Try.prog 11 #[.int .i64 100, .int .i64 40, .slice (some ⟨w.heap.size, 0, none⟩) 3 3] (w.alloc (.cells #[.int .i64 0, .int .i64 1, .int .i64 30, .int .i64 99, .int .i64 0, .int .i64 2, .int .i64 40, .int .i64 99, .int .i64 0, .int .i64 2, .int .i64 20, .int .i64 99] 35)) (ServeR 3 [30, 20, 10] (w.alloc (.cells #[.int .i64 0, .int .i64 1, .int .i64 30, .int .i64 99, .int .i64 0, .int .i64 2, .int .i64 40, .int .i64 99, .int .i64 0, .int .i64 2, .int .i64 20, .int .i64 99] 35)))) := Lib.hid (fun w => by
    have h := slo_lit w ga3 (fun i hi => ga3_in _ (List.getElem_mem hi)) (by decide)
    have := gaserve_yes (cap := 3) h ga3_err
    rw [show ga3.length = 3 from rfl, ga3_list] at this
    exact this)
  have M3 : Hid (∀ w : World, Calls Try.prog 15 #[.slice (some ⟨w.heap.size, 0, none⟩) 1 1, .slice (some ⟨w.heap.size + 1, 0, none⟩) 1 1] ((w.alloc (.cells #[.int .i64 0, .int .i64 0, .int .i64 0, .int .i64 5] 35)).alloc (.cells #[.int .i64 2] 3)) (fun e w' => ∃ g o c, e = .returned (.tuple #[.slice (some ⟨g, o, none⟩) 1 c, .bool true]) ∧ w'.cell? ⟨g, o + 3, none⟩ = some (.int .i64 3) ∧ Below ((w.alloc (.cells #[.int .i64 0, .int .i64 0, .int .i64 0, .int .i64 5] 35)).alloc (.cells #[.int .i64 2] 3)).heap.size ((w.alloc (.cells #[.int .i64 0, .int .i64 0, .int .i64 0, .int .i64 5] 35)).alloc (.cells #[.int .i64 2] 3)) w')) := Lib.hid (fun w => by
    have h := slo_lit w ga1 (fun i hi => ga1_in _ (List.getElem_mem hi)) (by decide)
    have h2 := h.on ((Below.refl _ _).alloc (Nat.le_refl _) (.cells #[.int .i64 2] 3))
    have hs := sl_lit15 (w.alloc (.cells #[.int .i64 0, .int .i64 0, .int .i64 0, .int .i64 5] 35)) [2] (by decide) (by decide)
    rw [show (w.alloc (.cells #[.int .i64 0, .int .i64 0, .int .i64 0, .int .i64 5] 35)).heap.size = w.heap.size + 1 by simp] at hs
    have := gapaid_any (ca := 1) (cp := 1) h2 (fun e => by cases e) (by decide) hs (by decide)
    refine this.mono ?_
    rintro e w' ⟨hb, ⟨_, B, c, L, rfl, _, hc, hsl, _⟩ | ⟨hn, _⟩⟩
    · obtain ⟨b, off, rfl, hcell⟩ := hsl.cells (show 0 < ga1.length by decide)
      have hL0 : 0 < L.length := by rw [hc.1]; decide
      have e0 := hc.2 0 (by decide) hL0
      rw [if_pos (by decide)] at e0
      obtain ⟨-, -, -, d⟩ := hcell 0 hL0
      rw [e0] at d
      exact ⟨b, off, c, rfl, by simpa [ga1, PGa.cut, List.getD] using d, hb⟩
    · refine absurd ⟨rfl, fun i hi => ?_⟩ hn
      have : i = 0 := by simp [ga1] at hi; omega
      subst this
      exact ⟨by decide, by simp [ga1, List.getD]⟩)
  have L2 : Hid (∀ w : World, Sl (w.alloc (.cells #[.int .i64 30, .int .i64 20, .int .i64 10] 3)) (some ⟨w.heap.size, 0, none⟩) 3 [30, 20, 10]) := Lib.hid (fun w => sl_lit15 w [30, 20, 10] (by decide) (by decide))
  go_enter Try.func10, Try.ntmps10
  go_wp2_with fail
  refine (M1.out _).mono ?_
  rintro _ w1 ⟨B1, rfl, -, s1, b1⟩
  have S1 := Lib.hid s1
  have HB1 := Lib.hid (below_step ((Below.refl w.heap.size w).alloc (Nat.le_refl _) _) b1)
  clear s1 b1 M1
  go_wp2_with fail
  refine (M3.out _).mono ?_
  rintro _ w2 ⟨g, o, c, rfl, d3, b2⟩
  have b2' : Below w1.heap.size w1 w2 := below_step (((Below.refl _ _).alloc (Nat.le_refl _) _).alloc (by simp) _) b2
  have S2 := Lib.hid (S1.out.on b2'); have HB2 := Lib.hid (below_step HB1.out b2')
  have D3 := Lib.hid d3
  clear b2 b2' d3 S1 HB1 M3
  go_wp2_with fail
  refine (same_any (some ⟨B1, 0, none⟩) _ 3 3 3 3 [30, 20, 10] [30, 20, 10] _ (S2.out.on ((Below.refl _ _).alloc (Nat.le_refl _) _)) (L2.out w2)).mono ?_
  rintro _ w3 ⟨rfl, b3⟩
  rw [show decide (([30, 20, 10] : List Int) = [30, 20, 10]) = true from rfl]
  have b3' : Below w2.heap.size w2 w3 := below_step ((Below.refl _ _).alloc (Nat.le_refl _) _) b3
  have HB3 := Lib.hid (below_step HB2.out b3')
  have d3 := (b3'.cell (World.block_lt_of_cell? w2 _ D3.out)).trans D3.out
  clear b3 b3'
  go_wp2_with fail
  go_ret
  exact ⟨by first | rfl | (simp; done), HB3.out⟩
end Go.Proofs.Ytmmgejgmlhhfdaa
