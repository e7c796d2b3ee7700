/-
  Whether somebody's orders name a creditor: what the library's ContainsFunc answers with the landed closure.
-/
import Derived.Test.YtbnnmakmgleikaaMaHire
set_option linter.unusedVariables false
set_option linter.unusedSimpArgs false
namespace Go.Proofs.Ytbnnmakmgleikaa
open Go.RowKit

theorem run_fn {F : FuncId} {fn : Func} (hf : Try.prog.funcs[F]? = some fn) (hn : (fn.name == "runtime.NumGoroutine") = false) (hb : fn.body.isNone = false) (args : Array Value) (w : World) : (callFunc F args).run Try.prog w = .ok (.enter F args) w := by
  have h1 : ¬ fn.name = "runtime.NumGoroutine" := by simpa using hn
  have h2 : ¬ fn.body = none := by intro h; rw [h] at hb; cases hb
  unfold callFunc
  simp [go_sem, hf, h1, h2]
theorem box4f {w : World} {H : Nat} {a b c d : Value} (h : Box w H [a, b, c, d]) : w.frozen? ⟨H, 0, none⟩ = false ∧ w.frozen? ⟨H, 1, none⟩ = false ∧ w.frozen? ⟨H, 2, none⟩ = false ∧ w.frozen? ⟨H, 3, none⟩ = false := ⟨h.f 0 rfl, h.f 1 rfl, h.f 2 rfl, h.f 3 rfl⟩
set_option maxHeartbeats 3200000 in
set_option maxRecDepth 100000 in
theorem kcred_any {w : World} {H : Nat} {a b c d : Int} (hB : Box w H [.int .i64 a, .int .i64 b, .int .i64 c, .int .i64 d]) (o : PMa.Ord) :
    Calls Try.prog 31 #[.agg #[.int .i64 o.cred, .int .i64 o.prio, .int .i64 o.claim, .int .i64 o.bal], .pointer (some ⟨H, 0, none⟩)] w (FlagM (decide (o.cred = a)) w) := by
  obtain ⟨Q, hQ⟩ : ∃ Q, FlagM (decide (o.cred = a)) w = Q := ⟨_, rfl⟩
  rw [hQ]
  have FIN : Hid (∀ (c : Bool) (w' : World), decide (o.cred = a) = c → Below w.heap.size w w' → Q (.returned (.bool c)) w') := Lib.hid (fun c w' e a => by rw [← hQ]; exact ⟨by rw [e], a⟩)
  obtain ⟨w1, hw1, XB, b1⟩ : ∃ w1, w.alloc (.cells #[.int .i64 o.cred, .int .i64 o.prio, .int .i64 o.claim, .int .i64 o.bal] 35) = w1 ∧ Box w1 w.heap.size [.int .i64 o.cred, .int .i64 o.prio, .int .i64 o.claim, .int .i64 o.bal] ∧ Below w.heap.size w w1 := ⟨_, rfl, Box.new _ _ [.int .i64 o.cred, .int .i64 o.prio, .int .i64 o.claim, .int .i64 o.bal], (Below.refl _ _).alloc (Nat.le_refl _) _⟩
  obtain ⟨x0, x1, x2, x3⟩ := box4 XB
  have hsx := XB.1
  obtain ⟨y0, y1, y2, y3⟩ := box4 (hB.on b1)
  have hsy := (hB.on b1).1
  have HW1 := Lib.hid hw1; have B1 := Lib.hid b1
  clear hQ XB hw1 b1 hB
  by_cases h : o.cred = a
  · have HD : Hid (decide (o.cred = a) = true) := Lib.hid (by simpa using h)
    have hb : (o.cred == a) = true := by rw [beq_iff_eq]; exact h
    clear h
    go_enter Try.func31, Try.ntmps31
    go_upto_region 1 with fail
    rw [HW1.out]
    go_wp2_with fail
    exact FIN.out _ _ HD.out B1.out
  · have HD : Hid (decide (o.cred = a) = false) := Lib.hid (by simpa using h)
    have hb : (o.cred == a) = false := by rw [beq_eq_false_iff_ne]; exact h
    clear h
    go_enter Try.func31, Try.ntmps31
    go_upto_region 1 with fail
    rw [HW1.out]
    go_wp2_with fail
    exact FIN.out _ _ HD.out B1.out
/-- A place, or none. -/
def IdxB (b : Bool) (w : World) (e : Ending) (w' : World) : Prop := ∃ z, e = .returned (.int .i64 z) ∧ decide (0 ≤ z) = b ∧ Below w.heap.size w w'
theorem any_take_step {l : List PMa.Ord} {f : PMa.Ord → Bool} {k : Nat} {x : PMa.Ord} (h : (l.take k).any f = false) (hx : l[k]? = some x) (hf : f x = false) : (l.take (k + 1)).any f = false := by
  have : l.take (k + 1) = l.take k ++ [x] := by rw [List.take_add_one, hx]; rfl
  rw [this, List.any_append, h]
  simp [hf]
set_option maxHeartbeats 6400000 in
set_option maxRecDepth 100000 in
theorem kindex_cred {w : World} {A : Option Addr} {n c H : Nat} {a b cl d : Int} {l : List PMa.Ord} (h1 : SlX ordM w A n l) (hn1 : n ≤ 1000000) (hB : Box w H [.int .i64 a, .int .i64 b, .int .i64 cl, .int .i64 d]) :
    Calls Try.prog 43 #[.slice A n c, .func (.func 31) #[] #[.pointer (some ⟨H, 0, none⟩)]] w (IdxB (l.any fun x => decide (x.cred = a)) w) := by
  obtain ⟨Q, hQ⟩ : ∃ Q, IdxB (l.any fun x => decide (x.cred = a)) w = Q := ⟨_, rfl⟩
  rw [hQ]
  have FIN : Hid (∀ (z : Int) (w' : World), decide (0 ≤ z) = (l.any fun x => decide (x.cred = a)) → Below w.heap.size w w' → Q (.returned (.int .i64 z)) w') := Lib.hid (fun b w' e a => by rw [← hQ]; exact ⟨b, rfl, e, a⟩)
  have e0 : l.length = n := h1.1
  have H1 := Lib.hid h1; have E0 := Lib.hid e0; have HB := Lib.hid hB
  have HE : ∀ (args : Array Value) (w : World), (callFunc 31 args).run Try.prog w = .ok (.enter 31 args) w := run_fn Try.func31 (by decide) (by decide)
  clear hQ h1 e0 hB
  go_enter Try.func43, Try.ntmps43
  go_wp2_with fail
  go_loopw [5, 8] (fun _ i wx => ∃ k : Nat, i = .int .i64 k ∧ k ≤ n ∧ Hid ((l.take k).any (fun x => decide (x.cred = a)) = false) ∧ Hid (Below w.heap.size w wx)) (fun _ i _ => n - (intOf i).toNat)
  case atStart => exact ⟨0, rfl, Nat.zero_le _, Lib.hid rfl, Lib.hid (Below.refl _ _)⟩
  case round =>
    obtain ⟨k, rfl, hk, I1, I2⟩ := hrel
    by_cases hkn : k < n
    · have hk0 : k < l.length := by rw [E0.out]; exact hkn
      obtain ⟨x, hx⟩ : ∃ x, l[k]? = some x := ⟨_, List.getElem?_eq_getElem hk0⟩
      have S := H1.out.on I2.out
      obtain ⟨pb, po, rfl, -⟩ := S.at hkn
      obtain ⟨c0, c1, c2, c3⟩ := ord_cell S hkn hx
      have hz := World.block_lt_of_cell? wr _ c0
      have gk : (k : Int) < (n : Int) := by omega
      have kr := kcred_any (HB.out.on I2.out) x
      obtain ⟨bq, hbq⟩ : ∃ bq, decide (x.cred = a) = bq := ⟨_, rfl⟩
      rw [hbq] at kr
      have KR := Lib.hid kr
      have HBQ := Lib.hid hbq; have HX := Lib.hid hx
      clear kr hbq S hx hk0
      go_wp2_with fail
      refine KR.out.mono ?_
      intro e3 w3 h3
      obtain ⟨rfl, b3⟩ := h3
      have B3 := Lib.hid (below_step I2.out b3)
      clear b3 KR hz c0 c1 c2 c3
      cases bq with
      | false =>
        have J := Lib.hid (any_take_step I1.out HX.out HBQ.out)
        go_wp2_with fail
        exact ⟨⟨k + 1, by congr 1, by omega, J, B3⟩, by simp [intOf]; omega⟩
      | true =>
        have HD : Hid (decide (0 ≤ (k : Int)) = (l.any fun x => decide (x.cred = a))) := Lib.hid (by
          rw [decide_eq_true (by omega)]
          exact (List.any_eq_true.2 ⟨x, List.mem_of_getElem? HX.out, HBQ.out⟩).symm)
        go_wp2_with fail
        exact FIN.out _ _ HD.out B3.out
    · have hek : k = n := by omega
      have HD : Hid (decide (0 ≤ (-1 : Int)) = (l.any fun x => decide (x.cred = a))) := Lib.hid (by
        have h := I1.out
        rw [List.take_of_length_le (by rw [E0.out]; omega)] at h
        rw [h]; decide)
      have gk : ¬ (k : Int) < (n : Int) := by omega
      clear hek I1
      go_wp2_with fail
      exact FIN.out _ _ HD.out I2.out
set_option maxHeartbeats 3200000 in
set_option maxRecDepth 100000 in
theorem kcontains_cred {w : World} {A : Option Addr} {n c H : Nat} {a b cl d : Int} {l : List PMa.Ord} (h1 : SlX ordM w A n l) (hn1 : n ≤ 1000000) (hB : Box w H [.int .i64 a, .int .i64 b, .int .i64 cl, .int .i64 d]) :
    Calls Try.prog 30 #[.slice A n c, .func (.func 31) #[] #[.pointer (some ⟨H, 0, none⟩)]] w (FlagM (l.any fun x => decide (x.cred = a)) w) := by
  have C := Lib.hid (kindex_cred (c := c) h1 hn1 hB)
  obtain ⟨bb, hbb⟩ : ∃ q, (l.any fun x => decide (x.cred = a)) = q := ⟨_, rfl⟩
  rw [hbb] at C ⊢
  obtain ⟨Q, hQ⟩ : ∃ Q, FlagM bb w = Q := ⟨_, rfl⟩
  rw [hQ]
  have FIN : Hid (∀ w', Below w.heap.size w w' → Q (.returned (.bool bb)) w') := Lib.hid (fun w' a => by rw [← hQ]; exact ⟨rfl, a⟩)
  clear hQ h1 hB hbb
  go_enter Try.func30, Try.ntmps30
  go_wp2_with (go_at_call 43; refine C.out.mono ?_)
  intro e2 w2 h2
  obtain ⟨z, rfl, hz, b2⟩ := h2
  have B2 := Lib.hid b2
  clear b2 C
  cases bb with
  | true =>
    go_wp2_with fail
    exact FIN.out _ B2.out
  | false =>
    go_wp2_with fail
    exact FIN.out _ B2.out
end Go.Proofs.Ytbnnmakmgleikaa
