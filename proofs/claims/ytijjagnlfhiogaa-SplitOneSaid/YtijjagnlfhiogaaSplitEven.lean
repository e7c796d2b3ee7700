/-
  What split.Even answers, of any total and any number of parts.
-/
import Derived.Test.YtijjagnlfhiogaaSplitAny
import Derived.Test.YtijjagnlfhiogaaRepeat
namespace Go.Proofs.Ytijjagnlfhiogaa
open Go.RowKit

theorem even_low (T m : Int) (w : World) (hm : m < 1) : Calls Try.prog 10 #[.int .i64 T, .int .i64 m] w (SplR [] 1 w) := by
  have HF := Lib.hid (splR_err w 1)
  go_enter Try.func10, Try.ntmps10
  go_wp2_with fail
  go_ret2
  exact HF.out
theorem even_high (T m : Int) (w : World) (hm : 60 < m) : Calls Try.prog 10 #[.int .i64 T, .int .i64 m] w (SplR [] 9 w) := by
  have HF := Lib.hid (splR_err w 9)
  have hm1 : ¬ m < 1 := by omega
  go_enter Try.func10, Try.ntmps10
  go_wp2_with fail
  go_ret2
  exact HF.out
theorem SplR.from {l : List Int} {err : Int} {w w1 : World} {e : Ending} {w' : World} (h : SplR l err w1 e w') (hb : Below w.heap.size w w1) : SplR l err w e w' := by
  obtain ⟨B, m, c, he, h1, h2, h3, h4⟩ := h
  exact ⟨B, m, c, he, h1, h2, h3, below_step hb h4⟩

set_option maxHeartbeats 400000 in
theorem even_mid (T : Int) (n : Nat) (w : World) (hT : T ≤ 9223372036854775807) (h1 : 1 ≤ n) (h2 : n ≤ 60) :
    Calls Try.prog 10 #[.int .i64 T, .int .i64 n] w (SplR (PSplit.listOf T (List.replicate n 1)) (PSplit.errOf T (List.replicate n 1)) w) := by
  have HSP : Hid (∀ A w, Sl w A n (List.replicate n 1) → Calls Try.prog 9 #[.int .i64 T, .slice A n n] w (SplR (PSplit.listOf T (List.replicate n 1)) (PSplit.errOf T (List.replicate n 1)) w)) := Lib.hid (fun A w h => split_any T A n n _ w h hT)
  generalize PSplit.errOf T (List.replicate n 1) = E at *
  generalize PSplit.listOf T (List.replicate n 1) = L at *
  have a1 : ¬ (n : Int) < 1 := by omega
  have a2 : ¬ (60 : Int) < (n : Int) := by omega
  go_enter Try.func10, Try.ntmps10
  go_wp2_with fail
  refine (repeat_any w.heap.size 0 1 n 1 _ (by go_simp) (by omega) (by omega)).mono ?_
  rintro _ w1 ⟨rfl, R1, B1⟩
  have hsz : (w.alloc (.cells #[.int .i64 1] 3)).heap.size = w.heap.size + 1 := by simp
  rw [hsz] at R1 B1 ⊢
  have B2 := Lib.hid (((Below.refl w.heap.size w).alloc (Nat.le_refl _) _).trans (B1.mono (by omega)))
  have S1 := Lib.hid (R1.sl List.length_replicate (fun t _ => rfl) (fun i hi => by
    have hi' : i < n := by simpa using hi
    simp [List.getD, hi']) (by omega))
  clear R1 B1
  go_wp2_with fail
  refine (HSP.out _ _ S1.out).mono ?_
  rintro _ w2 ⟨B, m, c, rfl, h3⟩
  have HF := Lib.hid (SplR.from (l := L) (err := E) (w := w) ⟨B, m, c, rfl, h3⟩ B2.out)
  clear h3
  go_wp2_with fail
  go_ret2
  exact HF.out
end Go.Proofs.Ytijjagnlfhiogaa
