/-
  What the reference of layer 15 answers: an order's want; whether, and by which error, what is served is refused.
-/
import Derived.Test.YtmmgejgmlhhfdaaGA
import Derived.Deep.DeepCutAuto
namespace Go.Proofs.Ytmmgejgmlhhfdaa
open Go.RowKit

theorem gawant_any (o : PGa.Ord) (w : World) : Calls Try.prog 20 #[.agg #[.int .i64 o.c, .int .i64 o.p, .int .i64 o.cl, .int .i64 o.ba]] w fun e w' => e = .returned (.int .i64 (min o.cl o.ba)) ∧ Below w.heap.size w w' := by
  obtain ⟨c, p, cl, ba⟩ := o
  by_cases h : cl < ba
  · have e1 : min cl ba = cl := by omega
    rw [e1]
    clear e1
    go_enter Try.func20, Try.ntmps20
    go_wp2_with fail
    go_ret
    exact ⟨rfl, (Below.refl _ _).alloc (Nat.le_refl _) _⟩
  · have e1 : min cl ba = ba := by omega
    rw [e1]
    clear e1
    go_enter Try.func20, Try.ntmps20
    go_wp2_with fail
    go_ret
    exact ⟨rfl, (Below.refl _ _).alloc (Nat.le_refl _) _⟩

theorem any_take {f : PGa.Ord → Bool} {l : List PGa.Ord} {k : Nat} (hk : k < l.length) : (l.take (k + 1)).any f = ((l.take k).any f || f l[k]) := by
  rw [List.take_succ_eq_append_getElem hk, List.any_append]
  simp

set_option maxHeartbeats 3200000 in
set_option maxRecDepth 100000 in
theorem gamay_any {A : Option Addr} {n cap : Nat} {l : List PGa.Ord} {w : World} {net prot : Int} (h : SlO w A n l) :
    Calls Try.prog 12 #[.int .i64 net, .int .i64 prot, .slice A n cap] w fun e w' => e = .returned (.int .i64 (PGa.err net prot l)) ∧ Below w.heap.size w w' := by
  have H := Lib.hid h
  have hl := Lib.hid h.len
  by_cases h8 : 8 < n
  · have hE : PGa.err net prot l = 9 := by unfold PGa.err; rw [h.len, if_pos h8]
    rw [hE]
    have i8 : (8 : Int) < (n : Int) := by omega
    clear h h8 hE
    go_enter Try.func12, Try.ntmps12
    go_wp2_with fail
    go_ret
    exact ⟨rfl, Below.refl _ _⟩
  · obtain ⟨b1, hb1⟩ : ∃ b, decide (prot < 0) = b := ⟨_, rfl⟩
    obtain ⟨b2, hb2⟩ : ∃ b, (decide (1125899906842624 < net) || decide (net < -1125899906842624) || decide (1125899906842624 < prot)) = b := ⟨_, rfl⟩
    have HE : Hid (PGa.err net prot l = if (b1 || l.any PGa.low) = true then 1 else if (b2 || l.any PGa.over) = true then 3 else 0) := Lib.hid (by
      unfold PGa.err
      rw [h.len, if_neg h8, ← hb1, ← hb2]
      simp only [Bool.or_eq_true, decide_eq_true_eq]
      by_cases g1 : prot < 0 ∨ l.any PGa.low = true
      · rw [if_pos g1, if_pos g1]
      · rw [if_neg g1, if_neg g1]
        by_cases g2 : (net < -1125899906842624 ∨ 1125899906842624 < net) ∨ 1125899906842624 < prot ∨ l.any PGa.over = true
        · rw [if_pos g2, if_pos (by rcases g2 with (g | g) | g | g; exact .inl (.inl (.inr g)); exact .inl (.inl (.inl g)); exact .inl (.inr g); exact .inr g)]
        · rw [if_neg g2, if_neg (fun g3 => g2 (by rcases g3 with ((g | g) | g) | g; exact .inl (.inr g); exact .inl (.inl g); exact .inr (.inl g); exact .inr (.inr g)))])
    have i8 : ¬ (8 : Int) < (n : Int) := by omega
    clear h h8
    go_enter Try.func12, Try.ntmps12
    go_upto_region 3 with fail
    go_cut [7, 8] (fun x y wx => x = .bool b1 ∧ y = .bool b2 ∧ Hid (Below w.heap.size w wx))
    case first =>
      have HB1 := Lib.hid hb1
      by_cases g1 : 1125899906842624 < net
      · obtain rfl : true = b2 := by rw [← hb2, decide_eq_true g1]; rfl
        clear hb2 hb1
        go_wp2_with fail
        go_meet
        exact ⟨by first | rfl | (rw [HB1.out]; done) | (simp [HB1.out]; done), rfl, Lib.hid (Below.refl _ _)⟩
      · by_cases g2 : net < -1125899906842624
        · obtain rfl : true = b2 := by rw [← hb2, decide_eq_true g2]; simp
          clear hb2 hb1
          go_wp2_with fail
          go_meet
          exact ⟨by first | rfl | (rw [HB1.out]; done) | (simp [HB1.out]; done), rfl, Lib.hid (Below.refl _ _)⟩
        · by_cases g3 : 1125899906842624 < prot
          · obtain rfl : true = b2 := by rw [← hb2, decide_eq_true g3]; simp
            clear hb2 hb1
            go_wp2_with fail
            go_meet
            exact ⟨by first | rfl | (rw [HB1.out]; done) | (simp [HB1.out]; done), rfl, Lib.hid (Below.refl _ _)⟩
          · obtain rfl : false = b2 := by rw [← hb2, decide_eq_false g1, decide_eq_false g2, decide_eq_false g3]; rfl
            clear hb2 hb1
            go_wp2_with fail
            go_meet
            exact ⟨by first | rfl | (rw [HB1.out]; done) | (simp [HB1.out]; done), by first | rfl | (simp; omega), Lib.hid (Below.refl _ _)⟩
    case rest =>
      obtain ⟨rfl, rfl, HW⟩ := hcut
      go_wp2_with fail
      go_loopw [7, 8, 9] (fun x y i wr => ∃ k : Nat, k ≤ n ∧ x = .bool (b1 || (l.take k).any PGa.low) ∧ y = .bool (b2 || (l.take k).any PGa.over) ∧ i = .int .i64 k ∧ Hid (Below w.heap.size w wr)) (fun _ _ i _ => n - (intOf i).toNat)
      case atStart => exact ⟨0, Nat.zero_le _, by simp, by simp, rfl, HW⟩
      case round =>
        obtain ⟨k, hk, rfl, rfl, rfl, HW⟩ := hrel
        by_cases hlt : k < n
        · obtain ⟨b, off, rfl, hc⟩ := (H.out.on HW.out).cells hlt
          have hkl : k < l.length := by rw [hl.out]; exact hlt
          obtain ⟨-, -, d2, d3⟩ := hc k hkl
          have t1 := any_take (f := PGa.low) hkl; have t2 := any_take (f := PGa.over) hkl
          obtain ⟨o, ho⟩ : ∃ o, l[k] = o := ⟨_, rfl⟩
          rw [ho] at d2 d3 t1 t2
          obtain ⟨oc, op, cl, ba⟩ := o
          have d2' : wr.cell? ⟨b, off + k * 4 + 2, none⟩ = some (.int .i64 cl) := d2
          have d3' : wr.cell? ⟨b, off + k * 4 + 3, none⟩ = some (.int .i64 ba) := d3
          obtain ⟨x, hx⟩ : ∃ x, (b1 || (l.take k).any PGa.low) = x := ⟨_, rfl⟩
          obtain ⟨y, hy⟩ : ∃ x, (b2 || (l.take k).any PGa.over) = x := ⟨_, rfl⟩
          have HX : Hid ((b1 || (l.take (k + 1)).any PGa.low) = (x || (decide (cl < 0) || decide (ba < 0)))) := Lib.hid (by rw [t1, ← Bool.or_assoc, hx]; rfl)
          have HY : Hid ((b2 || (l.take (k + 1)).any PGa.over) = (y || (decide (1125899906842624 < cl) || decide (1125899906842624 < ba)))) := Lib.hid (by rw [t2, ← Bool.or_assoc, hy]; rfl)
          rw [hx, hy]
          have i1 : (0 : Int) ≤ (k : Int) := by omega
          have i2 : (k : Int) < (n : Int) := by omega
          clear hc d2 d3 t1 t2 ho hx hy
          go_upto_region 7 with fail
          go_cut [7] (fun u wx => u = .bool (x || (decide (cl < 0) || decide (ba < 0))) ∧ wx = wr)
          case first =>
            cases x with
            | true =>
              go_wp2_with fail
              go_meet
              exact ⟨by simp, rfl⟩
            | false =>
              by_cases h1 : cl < 0
              · go_wp2_with fail
                go_meet
                exact ⟨by simp [h1], rfl⟩
              · by_cases h2 : ba < 0
                · go_wp2_with fail
                  go_meet
                  exact ⟨by simp [h2], rfl⟩
                · go_wp2_with fail
                  go_meet
                  exact ⟨by simp [h1, h2]; try omega, rfl⟩
          case rest =>
            obtain ⟨rfl, rfl⟩ := hcut
            rw [← HX.out]
            cases y with
            | true =>
              go_wp2_with fail
              exact ⟨⟨k + 1, by omega, rfl, by rw [HY.out]; simp, by congr 1, HW⟩, by simp [intOf]; omega⟩
            | false =>
              by_cases h1 : 1125899906842624 < cl
              · have HY2 : Hid (Value.bool (b2 || (l.take (k + 1)).any PGa.over) = .bool true) := Lib.hid (by rw [HY.out]; simp [h1])
                go_wp2_with fail
                exact ⟨⟨k + 1, by omega, rfl, HY2.out.symm, by congr 1, HW⟩, by simp [intOf]; omega⟩
              · by_cases h2 : 1125899906842624 < ba
                · have HY2 : Hid (Value.bool (b2 || (l.take (k + 1)).any PGa.over) = .bool true) := Lib.hid (by rw [HY.out]; simp [h2])
                  go_wp2_with fail
                  exact ⟨⟨k + 1, by omega, rfl, HY2.out.symm, by congr 1, HW⟩, by simp [intOf]; omega⟩
                · have HY2 : Hid (Value.bool (b2 || (l.take (k + 1)).any PGa.over) = .bool false) := Lib.hid (by rw [HY.out, decide_eq_false h1, decide_eq_false h2]; rfl)
                  go_wp2_with fail
                  exact ⟨⟨k + 1, by omega, rfl, HY2.out.symm, by congr 1, HW⟩, by simp [intOf]; omega⟩
        · obtain rfl : k = n := by omega
          have ht : l.take k = l := List.take_of_length_le (by rw [hl.out]; exact Nat.le_refl _)
          rw [ht]
          obtain ⟨x, hx⟩ : ∃ x, (b1 || l.any PGa.low) = x := ⟨_, rfl⟩
          obtain ⟨y, hy⟩ : ∃ x, (b2 || l.any PGa.over) = x := ⟨_, rfl⟩
          have HE2 := HE.out
          rw [hx, hy] at HE2 ⊢
          have HE3 := Lib.hid HE2
          clear HE2 HE ht hx hy
          cases x with
          | true =>
            go_wp2_with fail
            go_ret
            exact ⟨by rw [HE3.out]; rfl, HW.out⟩
          | false =>
            cases y with
            | true =>
              go_wp2_with fail
              go_ret
              exact ⟨by rw [HE3.out]; rfl, HW.out⟩
            | false =>
              go_wp2_with fail
              go_ret
              exact ⟨by rw [HE3.out]; rfl, HW.out⟩
end Go.Proofs.Ytmmgejgmlhhfdaa
