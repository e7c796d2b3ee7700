/-
  The wants of one priority, and what they are paid of what is left: package garnish.
-/
import Derived.Test.YtmmgejgmlhhfdaaGaKit
import Derived.Test.YtmmgejgmlhhfdaaBoxKit
import Derived.Test.YtmmgejgmlhhfdaaSplitNew
namespace PSplit
open Go.Proofs.Ytmmgejgmlhhfdaa
def wlist (f : Nat → Nat) (k : Nat) : List Int := (List.range k).map (fun i => ((f i : Nat) : Int))
theorem wlist_len (f : Nat → Nat) (k : Nat) : (wlist f k).length = k := by simp [wlist]
theorem wlist_get {f : Nat → Nat} {k i : Nat} (h : i < k) : (wlist f k).getD i 0 = ((f i : Nat) : Int) := by simp [wlist, List.getD, h]
theorem wlist_next (f : Nat → Nat) (k : Nat) : wlist f k ++ [((f k : Nat) : Int)] = wlist f (k + 1) := by simp [wlist, List.range_succ]
theorem sumFrom_nat {f : Nat → Nat} : ∀ {k : Nat}, sumN f k ≤ 9223372036854775807 → sumFrom 0 (wlist f k) = some ((sumN f k : Nat) : Int) := by
  intro k
  induction k with
  | zero => intro _; rfl
  | succ k ih =>
    intro h
    simp only [sumN] at h
    rw [← wlist_next, sumFrom_append, ih (by omega)]
    show sumFrom ((sumN f k : Nat) : Int) [((f k : Nat) : Int)] = _
    simp only [sumFrom]
    rw [if_pos (by unfold Adds; omega)]
    simp only [sumN]
    rw [Int.natCast_add]
end PSplit
namespace Go.Proofs.Ytmmgejgmlhhfdaa
open Go.RowKit

/-- Orders that are not refused. -/
def PGa.Ok (l : List PGa.Ord) : Prop := ∀ i (h : i < l.length), (0 ≤ l[i].cl ∧ l[i].cl ≤ 1125899906842624) ∧ 0 ≤ l[i].ba ∧ l[i].ba ≤ 1125899906842624
theorem PGa.Ok.wn {l : List PGa.Ord} (h : PGa.Ok l) {i : Nat} (hi : i < l.length) : ((PGa.wn l i : Nat) : Int) = min l[i].cl l[i].ba := by
  have := h i hi
  unfold PGa.wn
  simp only [List.getD, List.getElem?_eq_getElem hi, Option.getD_some]
  omega
theorem PGa.Ok.wn_le {l : List PGa.Ord} (h : PGa.Ok l) (i : Nat) : PGa.wn l i ≤ 1125899906842624 := by
  by_cases hi : i < l.length
  · have := h.wn hi; have := h i hi; omega
  · unfold PGa.wn; rw [List.getD, List.getElem?_eq_none (by omega)]; decide
theorem PGa.Ok.grp_le {l : List PGa.Ord} (h : PGa.Ok l) (p : Int) (i : Nat) : PGa.grp l p i ≤ 1125899906842624 := by
  unfold PGa.grp; split
  · exact h.wn_le i
  · omega
theorem sumN_upto_const {f : Nat → Nat} {v : Nat} (h : ∀ i, f i ≤ v) : ∀ n, PSplit.sumN f n ≤ n * v
  | 0 => by simp [PSplit.sumN]
  | n + 1 => by have := sumN_upto_const h n; have := h n; simp only [PSplit.sumN, Nat.succ_mul]; omega
theorem PGa.Ok.at_le {l : List PGa.Ord} (h : PGa.Ok l) (hn : l.length ≤ 8) (p : Int) {k : Nat} (hk : k ≤ l.length) : PSplit.sumN (PGa.grp l p) k ≤ 9007199254740992 := by
  have := sumN_upto_const (fun i => h.grp_le p i) k
  omega

/-- A slice in a block that is new. -/
def NewR (n : Nat) (l : List Int) (w : World) (e : Ending) (w' : World) : Prop := e = .returned (.slice (some ⟨w.heap.size, 0, none⟩) n n) ∧ Sl w' (some ⟨w.heap.size, 0, none⟩) n l ∧ Below w.heap.size w w'

set_option maxHeartbeats 3200000 in
set_option maxRecDepth 100000 in
theorem wants_any {A : Option Addr} {n cap : Nat} {l : List PGa.Ord} {w : World} {p : Int} (h : SlO w A n l) (hn : n ≤ 8) (hok : PGa.Ok l) :
    Calls Try.prog 19 #[.slice A n cap, .int .i64 p] w (NewR n (PSplit.wlist (PGa.grp l p) n) w) := by
  have H := Lib.hid h
  have hl := Lib.hid h.len
  have HOK := Lib.hid hok
  have hmk := make_row n (by omega)
  clear h hok
  obtain ⟨Q, hQ⟩ : ∃ Q, w.heap.size = Q := ⟨_, rfl⟩
  have HQ := Lib.hid hQ
  go_enter Try.func19, Try.ntmps19
  go_upto_region 2 with fail
  have R4 : Hid (Rw (w.alloc (.cells (madeCells #[.int .i64 0] n) 3)) Q n (List.replicate n 0)) := Lib.hid (by rw [← hQ]; exact Rw.of_row (made_row w _ n rfl (by omega)) List.length_replicate)
  have B4 : Hid (Below w.heap.size w (w.alloc (.cells (madeCells #[.int .i64 0] n) 3))) := Lib.hid ((Below.refl _ _).alloc (Nat.le_refl _) _)
  generalize w.alloc (.cells (madeCells #[.int .i64 0] n) 3) = w4 at *
  clear hmk hQ
  go_wp2_with fail
  go_loopw [13] (fun i wr => ∃ (k : Nat) (q : List Int), k ≤ n ∧ i = .int .i64 k ∧ Hid (Rw wr Q n q) ∧ Hid (∀ t, t < n → q.getD t 0 = if t < k then ((PGa.grp l p t : Nat) : Int) else 0) ∧ Hid (Below w.heap.size w wr)) (fun i _ => n - (intOf i).toNat)
  case atStart => exact ⟨0, _, Nat.zero_le _, rfl, R4, (show Hid _ from fun t ht => by rw [if_neg (by omega)]; simp [List.getD, ht]), B4⟩
  case round =>
    clear R4 B4
    obtain ⟨k, q, hk, rfl, HR, HP, HW⟩ := hrel
    by_cases hlt : k < n
    · obtain ⟨b, off, rfl, hc⟩ := (H.out.on HW.out).cells hlt
      have hkl : k < l.length := by rw [hl.out]; exact hlt
      obtain ⟨d0, d1, d2, d3⟩ := hc k hkl
      have hwn := HOK.out.wn hkl
      obtain ⟨o, ho⟩ : ∃ o, l[k] = o := ⟨_, rfl⟩
      rw [ho] at d0 d1 d2 d3 hwn
      have hpo : PGa.pr l k = o.p := by unfold PGa.pr; rw [← ho]; simp [List.getD, hkl]
      have i1 : (0 : Int) ≤ (k : Int) := by omega
      have i2 : (k : Int) < (n : Int) := by omega
      clear hc ho
      obtain ⟨oc, op, ocl, oba⟩ := o
      have HWN := Lib.hid hwn; have HPO := Lib.hid hpo
      clear hwn hpo
      go_upto_region 5 with fail
      have b6 : Below wr.heap.size wr (wr.alloc (.cells #[.int .i64 oc, .int .i64 op, .int .i64 ocl, .int .i64 oba] 35)) := (Below.refl _ _).alloc (Nat.le_refl _) _
      have XA6 := Lib.hid (Box.new wr 35 [.int .i64 oc, .int .i64 op, .int .i64 ocl, .int .i64 oba])
      have R6 := Lib.hid (HR.out.on b6); have B6 := Lib.hid (below_step HW.out b6)
      obtain ⟨D, hD⟩ : ∃ D, wr.heap.size = D := ⟨_, rfl⟩
      rw [hD] at XA6 ⊢
      generalize wr.alloc (.cells [.int .i64 oc, .int .i64 op, .int .i64 ocl, .int .i64 oba].toArray 35) = w6 at *
      clear b6 d0 d1 d2 d3 hD
      have a1 := XA6.out.c 1 rfl; have a2 := XA6.out.c 2 rfl; have a3 := XA6.out.c 3 rfl
      by_cases hp : op = p
      · have e1 : (op == p) = true := by rw [hp]; exact beq_self_eq_true _
        obtain ⟨v, hv⟩ : ∃ v, min ocl oba = v := ⟨_, rfl⟩
        have HV : Hid (((PGa.grp l p k : Nat) : Int) = v) := Lib.hid (by unfold PGa.grp; rw [if_pos (by rw [HPO.out]; exact hp), HWN.out, hv])
        have c1 := (R6.out.2 k hlt).1; have c2 := (R6.out.2 k hlt).2
        clear hp
        go_upto_region 7 with fail
        have R7 : Hid (Rw (w6.setCell ⟨Q, k, none⟩ (.int .i64 v)) Q n (q.set k v)) := Lib.hid (R6.out.set hlt v)
        have B7 : Hid (Below w.heap.size w (w6.setCell ⟨Q, k, none⟩ (.int .i64 v))) := Lib.hid (B6.out.setCell (by rw [HQ.out]; exact Nat.le_refl _) _)
        have P7 : Hid (∀ t, t < n → (q.set k v).getD t 0 = if t < k + 1 then ((PGa.grp l p t : Nat) : Int) else 0) := Lib.hid (fun t ht => by
          rw [set_get R6.out.1 hlt]
          by_cases e : t = k
          · subst e; rw [if_pos rfl, if_pos (by omega), HV.out]
          · rw [if_neg e, HP.out t ht]
            by_cases h : t < k
            · rw [if_pos h, if_pos (by omega)]
            · rw [if_neg h, if_neg (by omega)])
        clear a1 a2 a3 c1 c2
        go_wp2_with fail
        exact ⟨⟨k + 1, _, by omega, by congr 1, R7, P7, B7⟩, by simp [intOf]; omega⟩
      · have e1 : (op == p) = false := beq_eq_false_iff_ne.2 hp
        have P7 : Hid (∀ t, t < n → q.getD t 0 = if t < k + 1 then ((PGa.grp l p t : Nat) : Int) else 0) := Lib.hid (fun t ht => by
          rw [HP.out t ht]
          by_cases e : t = k
          · subst e
            rw [if_neg (by omega), if_pos (by omega)]
            unfold PGa.grp
            rw [if_neg (by rw [HPO.out]; exact hp)]
            rfl
          · by_cases h : t < k
            · rw [if_pos h, if_pos (by omega)]
            · rw [if_neg h, if_neg (by omega)])
        clear hp
        go_wp2_with fail
        exact ⟨⟨k + 1, _, by omega, by congr 1, R6, P7, B6⟩, by simp [intOf]; omega⟩
    · obtain rfl : k = n := by omega
      have HS : Hid (Sl wr (some ⟨Q, 0, none⟩) k (PSplit.wlist (PGa.grp l p) k)) := Lib.hid (HR.out.sl (PSplit.wlist_len _ _) (fun t ht => by rw [HP.out t ht, if_pos ht, PSplit.wlist_get ht]) (fun i hi => by
        rw [PSplit.wlist_len] at hi
        rw [PSplit.wlist_get hi]
        have := HOK.out.grp_le p i
        omega) (by omega))
      go_wp2_with fail
      go_ret
      unfold NewR
      rw [HQ.out]
      exact ⟨rfl, HS.out, by rw [← HQ.out]; exact HW.out⟩

/-- What those of one priority are paid: a slice from the block K on. -/
def ShareR (K n : Nat) (l : List Int) (w : World) (e : Ending) (w' : World) : Prop := ∃ B c, e = .returned (.tuple #[.slice B n c, .int .i64 0]) ∧ Sl w' B n l ∧ Below w.heap.size w w' ∧ ∀ ad, B = some ad → K ≤ ad.block

set_option maxHeartbeats 3200000 in
set_option maxRecDepth 100000 in
theorem gashare_any {A : Option Addr} {n cap K R : Nat} {l : List PGa.Ord} {w : World} {p : Int} (hl : l.length = n) (hn : n ≤ 8) (hok : PGa.Ok l) (hA : Sl w A n (PSplit.wlist (PGa.grp l p) n)) (hK : ∀ ad, A = some ad → K ≤ ad.block) (hKw : K ≤ w.heap.size) (hR : R ≤ 9007199254740992) :
    Calls Try.prog 18 #[.int .i64 R, .slice A n cap] w (ShareR K n (PSplit.wlist (PGa.share R l p) n) w) := by
  have HA := Lib.hid hA
  have HU : Hid (∀ k, k ≤ n → PSplit.sumN (PGa.grp l p) k ≤ 9007199254740992) := Lib.hid (fun k hk => hok.at_le (by omega) p (by omega))
  have HAT : Hid (PSplit.sumN (PGa.grp l p) n = PGa.atP l p) := Lib.hid (by unfold PGa.atP; rw [hl])
  have HR0 : Hid (PGa.atP l p ≤ R → ShareR K n (PSplit.wlist (PGa.share R l p) n) w (.returned (.tuple #[.slice A n cap, .int .i64 0])) w) := Lib.hid (fun h => by
    have e : PSplit.wlist (PGa.share R l p) n = PSplit.wlist (PGa.grp l p) n := by
      unfold PSplit.wlist
      refine List.map_congr_left (fun i _ => ?_)
      unfold PGa.share; rw [if_pos h]
    rw [e]
    exact ⟨A, cap, rfl, hA, Below.refl _ _, hK⟩)
  have HS : Hid (R < PGa.atP l p → Calls Try.prog 28 #[.int .i64 R, .slice A n cap] w (ShareR K n (PSplit.wlist (PGa.share R l p) n) w)) := Lib.hid (fun h => by
    obtain ⟨k, rfl⟩ : ∃ k, n = k + 1 := ⟨n - 1, by
      by_cases h0 : n = 0
      · exfalso; have := HAT.out; rw [h0] at this; simp only [PSplit.sumN] at this; omega
      · omega⟩
    have hu := HU.out _ (Nat.le_refl _)
    have := split_new R (PSplit.sumN (PGa.grp l p) (k + 1)) k (PGa.grp l p) A cap _ w hA (fun i hi => PSplit.wlist_get hi) (by omega) (PSplit.sumFrom_nat (by omega)) rfl (by rw [HAT.out]; omega) (by omega) (by omega)
    refine this.mono ?_
    rintro e w' ⟨B, m, c, rfl, _, _, hs, hb, hf⟩
    have hm : m = k + 1 := by have := hs.1; rw [PSplit.pL_len] at this; exact this.symm
    subst hm
    have e : PSplit.wlist (PGa.share R l p) (k + 1) = PSplit.pL R (PSplit.sumN (PGa.grp l p) (k + 1)) (PGa.grp l p) (k + 1) (k + 1) := by
      unfold PSplit.wlist PSplit.pL
      refine List.map_congr_left (fun i _ => ?_)
      unfold PGa.share; rw [if_neg (by omega), HAT.out, hl]
    rw [e]
    exact ⟨B, c, rfl, hs, hb, fun ad e => Nat.le_trans hKw (hf ad e)⟩)
  clear hl hok hA hK hKw
  go_enter Try.func18, Try.ntmps18
  go_wp2_with fail
  go_loop [6, 11] (fun s i => ∃ (k : Nat), k ≤ n ∧ i = .int .i64 k ∧ s = .int .i64 ((PSplit.sumN (PGa.grp l p) k : Nat) : Int)) (fun _ i => n - (intOf i).toNat)
  case atStart => exact ⟨0, Nat.zero_le _, rfl, rfl⟩
  case round =>
    obtain ⟨k, hk, rfl, rfl⟩ := hrel
    by_cases hlt : k < n
    · obtain ⟨b, off, rfl, hc⟩ : ∃ b off, A = some ⟨b, off, none⟩ ∧ ∀ i, i < n → w.cell? ⟨b, off + i, none⟩ = some (.int .i64 ((PSplit.wlist (PGa.grp l p) n).getD i 0)) := by
        rcases HA.out.2.2.2 with h | h
        · omega
        · exact h
      have c1 := hc k hlt
      rw [PSplit.wlist_get hlt] at c1
      have hu1 := HU.out (k + 1) hlt
      have hu2 : PSplit.sumN (PGa.grp l p) (k + 1) = PSplit.sumN (PGa.grp l p) k + PGa.grp l p k := rfl
      obtain ⟨s, hs⟩ : ∃ s, PSplit.sumN (PGa.grp l p) k = s := ⟨_, rfl⟩
      obtain ⟨g, hg⟩ : ∃ g, PGa.grp l p k = g := ⟨_, rfl⟩
      rw [hs, hg] at hu2
      rw [hg] at c1
      rw [hs]
      have e1 : IntKind.i64.wrap ((s : Int) + (g : Int)) = ((s + g : Nat) : Int) := by rw [IntKind.wrap_i64]; omega
      have HN := Lib.hid hu2
      have i1 : (0 : Int) ≤ (k : Int) := by omega
      have i2 : (k : Int) < (n : Int) := by omega
      clear hc hs hg hu1 hu2
      go_wp2_with fail
      go_round
      case rel => exact ⟨k + 1, by omega, by congr 1, by rw [HN.out]; first | rfl | (congr 1; omega)⟩
      case measure => simp [intOf]; omega
    · obtain rfl : k = n := by omega
      rw [HAT.out]
      by_cases hle : PGa.atP l p ≤ R
      · have HF := Lib.hid (HR0.out hle)
        have i3 : ((PGa.atP l p : Nat) : Int) ≤ (R : Int) := by omega
        clear hle
        go_wp2_with fail
        go_ret2
        exact HF.out
      · have HF := Lib.hid (HS.out (by omega))
        have i3 : ¬ ((PGa.atP l p : Nat) : Int) ≤ (R : Int) := by omega
        clear hle
        go_wp2_with fail
        refine HF.out.mono ?_
        rintro _ w2 ⟨B, c, rfl, hs, hb, hf⟩
        have HX : Hid (ShareR K k (PSplit.wlist (PGa.share R l p) k) w (.returned (.tuple #[.slice B k c, .int .i64 0])) w2) := Lib.hid ⟨B, c, rfl, hs, hb, hf⟩
        clear hs hb hf
        go_wp2_with fail
        go_ret2
        exact HX.out
end Go.Proofs.Ytmmgejgmlhhfdaa
