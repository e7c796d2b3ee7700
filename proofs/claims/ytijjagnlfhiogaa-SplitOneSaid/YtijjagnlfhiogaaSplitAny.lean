/-
  What split.Split answers, of any total and any weights: the error, or the parts.
-/
import Derived.Test.YtijjagnlfhiogaaSplit
import Derived.Test.YtijjagnlfhiogaaRef04Sum
namespace PSplit
/-- Which error. -/
def errOf (T : Int) (ws : List Int) : Int :=
  if 60 < ws.length then 9 else if T < 0 ∨ ∃ i, i < ws.length ∧ ws.getD i 0 < 0 then 1 else
  match Go.Proofs.Ytijjagnlfhiogaa.sumFrom 0 ws with
  | none => 3
  | some s => if s = 0 then 4 else 0
/-- The weights as numbers. -/
def wOf (ws : List Int) (i : Nat) : Nat := (ws.getD i 0).toNat
/-- The parts. -/
def partsOf (T : Int) (ws : List Int) : List Int := pL T.toNat (sumN (wOf ws) ws.length) (wOf ws) ws.length ws.length
/-- What Split answers. -/
def listOf (T : Int) (ws : List Int) : List Int := if errOf T ws = 0 then partsOf T ws else []
theorem sumFrom_sum : ∀ {l : List Int} {s t : Int}, Go.Proofs.Ytijjagnlfhiogaa.sumFrom s l = some t → t = s + l.sum
  | [], s, t, h => by simp only [Go.Proofs.Ytijjagnlfhiogaa.sumFrom] at h; injection h with h; simp; omega
  | k :: r, s, t, h => by
    simp only [Go.Proofs.Ytijjagnlfhiogaa.sumFrom] at h
    by_cases ha : Go.Proofs.Ytijjagnlfhiogaa.Adds s k
    · rw [if_pos ha] at h
      have := sumFrom_sum h
      rw [List.sum_cons]; omega
    · rw [if_neg ha] at h; cases h
theorem sum_take {l : List Int} (h : ∀ i, i < l.length → 0 ≤ l.getD i 0) : ∀ k, k ≤ l.length → (l.take k).sum = ((sumN (wOf l) k : Nat) : Int) := by
  intro k
  induction k with
  | zero => intro _; simp [sumN]
  | succ k ih =>
    intro hk
    rw [Go.Proofs.Ytijjagnlfhiogaa.take_snocI l k (by omega), List.sum_append, ih (by omega)]
    have := h k (by omega)
    simp only [sumN, List.sum_cons, List.sum_nil]
    unfold wOf; omega
theorem sum_is {l : List Int} {s : Int} (h : ∀ i, i < l.length → 0 ≤ l.getD i 0) (hs : Go.Proofs.Ytijjagnlfhiogaa.sumFrom 0 l = some s) : s = ((sumN (wOf l) l.length : Nat) : Int) := by
  have h1 := sumFrom_sum hs
  have h2 := sum_take h l.length (Nat.le_refl _)
  rw [List.take_length] at h2
  omega
/-- Where there is no error. -/
theorem errOf_zero {T : Int} {ws : List Int} (h : errOf T ws = 0) : ws.length ≤ 60 ∧ 0 ≤ T ∧ (∀ i, i < ws.length → 0 ≤ ws.getD i 0) ∧ Go.Proofs.Ytijjagnlfhiogaa.sumFrom 0 ws = some ((sumN (wOf ws) ws.length : Nat) : Int) ∧ 0 < sumN (wOf ws) ws.length ∧ sumN (wOf ws) ws.length ≤ 9223372036854775807 := by
  unfold errOf at h
  by_cases h1 : 60 < ws.length
  · rw [if_pos h1] at h; cases h
  rw [if_neg h1] at h
  by_cases h2 : T < 0 ∨ ∃ i, i < ws.length ∧ ws.getD i 0 < 0
  · rw [if_pos h2] at h; cases h
  rw [if_neg h2] at h
  have hp : ∀ i, i < ws.length → 0 ≤ ws.getD i 0 := fun i hi => Int.not_lt.1 (fun hc => h2 (.inr ⟨i, hi, hc⟩))
  cases hs : Go.Proofs.Ytijjagnlfhiogaa.sumFrom 0 ws with
  | none => rw [hs] at h; cases h
  | some s =>
    rw [hs] at h
    simp only at h
    by_cases h3 : s = 0
    · rw [if_pos h3] at h; cases h
    have e := sum_is hp hs
    have hr := Go.Proofs.Ytijjagnlfhiogaa.sumFrom_range (by omega) (by omega) hs
    exact ⟨by omega, Int.not_lt.1 (fun hc => h2 (.inl hc)), hp, by rw [e], by omega, by omega⟩
end PSplit
namespace Go.Proofs.Ytijjagnlfhiogaa
open Go.RowKit

theorem sl_nil (w : World) : Sl w none 0 [] := ⟨rfl, fun i hi => by omega, by omega, .inl rfl⟩
theorem splR_err (w : World) (e : Int) : SplR [] e w (.returned (.tuple #[.slice none 0 0, .int .i64 e])) w := ⟨none, 0, 0, rfl, fun _ => rfl, Nat.le_refl _, sl_nil w, Below.refl _ _⟩

set_option maxHeartbeats 1600000 in
theorem split_any (T : Int) (A : Option Addr) (n cap : Nat) (ws : List Int) (w : World) (hA : Sl w A n ws) (hT : T ≤ 9223372036854775807) :
    Calls Try.prog 9 #[.int .i64 T, .slice A n cap] w (SplR (PSplit.listOf T ws) (PSplit.errOf T ws) w) := by
  have hlen := hA.1
  have hnmax := hA.2.2.1
  by_cases hz : PSplit.errOf T ws = 0
  · obtain ⟨e1, e2, e3, e4, e5, e6⟩ := PSplit.errOf_zero hz
    rw [show PSplit.listOf T ws = PSplit.partsOf T ws by unfold PSplit.listOf; rw [if_pos hz], hz]
    obtain ⟨m, rfl⟩ : ∃ m, n = m + 1 := ⟨n - 1, by
      by_cases h0 : n = 0
      · exfalso; rw [hlen, h0] at e5; simp only [PSplit.sumN] at e5; omega
      · omega⟩
    have := split_parts T.toNat (PSplit.sumN (PSplit.wOf ws) ws.length) m (PSplit.wOf ws) A cap ws w hA (fun i hi => by have := e3 i (by omega); unfold PSplit.wOf; omega) (by omega) e4 (by rw [hlen]) e5 (by omega) e6
    rw [show ((T.toNat : Nat) : Int) = T by omega] at this
    unfold PSplit.partsOf
    rw [hlen] at this ⊢
    exact this
  · rw [show PSplit.listOf T ws = [] by unfold PSplit.listOf; rw [if_neg hz]]
    have HZ := Lib.hid hz
    clear hz
    unfold PSplit.errOf
    by_cases h1 : 60 < ws.length
    · rw [if_pos h1]
      have h1' : (60 : Int) < (n : Int) := by omega
      have HF := Lib.hid (splR_err w 9)
      clear h1 hA hT
      go_enter Try.func9, Try.ntmps9
      go_wp2_with fail
      go_ret2
      exact HF.out
    · rw [if_neg h1]
      have h1' : ¬ (60 : Int) < (n : Int) := by omega
      by_cases h2 : T < 0 ∨ ∃ i, i < ws.length ∧ ws.getD i 0 < 0
      · rw [if_pos h2]
        have HF := Lib.hid (splR_err w 1)
        by_cases h3 : T < 0
        · clear h1 hA hT h2
          go_enter Try.func9, Try.ntmps9
          go_wp2_with fail
          go_ret2
          exact HF.out
        · have h4 : Hid (∃ i, i < n ∧ ws.getD i 0 < 0) := Lib.hid (by rw [← hlen]; exact h2.resolve_left h3)
          have HA := Lib.hid hA
          clear h1 hA hT h2
          go_enter Try.func9, Try.ntmps9
          go_wp2_with fail
          refine (contains_any _ n cap ws _ HA.out true ⟨fun _ => h4.out, fun _ => rfl⟩).mono ?_
          rintro _ _ ⟨rfl, rfl⟩
          go_wp2_with fail
          go_ret2
          exact HF.out
      · rw [if_neg h2]
        have h3 : ¬ T < 0 := fun h => h2 (.inl h)
        have h4 : Hid (false = true ↔ ∃ i, i < n ∧ ws.getD i 0 < 0) := Lib.hid ⟨fun h => by (cases h), fun h => absurd (.inr (by rw [hlen]; exact h)) h2⟩
        have HA := Lib.hid hA
        cases hs : sumFrom 0 ws with
        | none =>
          have HR := Lib.hid (sumV_none hs)
          have HF := Lib.hid (splR_err w 3)
          clear h1 hA hT h2 hs
          go_enter Try.func9, Try.ntmps9
          go_wp2_with fail
          refine (contains_any _ n cap ws _ HA.out false h4.out).mono ?_
          rintro _ _ ⟨rfl, rfl⟩
          go_wp2_with fail
          refine (sum_any _ n cap ws _ HA.out).mono ?_
          rintro _ _ ⟨rfl, rfl⟩
          rw [HR.out]
          go_wp2_with fail
          go_ret2
          exact HF.out
        | some s =>
          by_cases h5 : s = 0
          · simp only [if_pos h5]
            have HR := Lib.hid (sumV_some (by rw [hs, h5] : sumFrom 0 ws = some 0))
            have HF := Lib.hid (splR_err w 4)
            clear h1 hA hT h2 hs h5
            go_enter Try.func9, Try.ntmps9
            go_wp2_with fail
            refine (contains_any _ n cap ws _ HA.out false h4.out).mono ?_
            rintro _ _ ⟨rfl, rfl⟩
            go_wp2_with fail
            refine (sum_any _ n cap ws _ HA.out).mono ?_
            rintro _ _ ⟨rfl, rfl⟩
            rw [HR.out]
            go_wp2_with fail
            go_ret2
            exact HF.out
          · exfalso
            refine HZ.out ?_
            unfold PSplit.errOf
            rw [if_neg h1, if_neg h2, hs]
            simp only [if_neg h5]
end Go.Proofs.Ytijjagnlfhiogaa
