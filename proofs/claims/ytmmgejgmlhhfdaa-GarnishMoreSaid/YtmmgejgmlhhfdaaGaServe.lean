/-
  What each order is paid: garnish.Serve.
-/
import Derived.Test.YtmmgejgmlhhfdaaGaFault
import Derived.Test.YtmmgejgmlhhfdaaGaPrio
import Derived.Test.YtmmgejgmlhhfdaaGaShare
namespace Go.Proofs.Ytmmgejgmlhhfdaa
open Go.RowKit

theorem sl_only {w w' : World} {H n : Nat} {A : Option Addr} {l : List Int} (h : Sl w A n l) (ho : Only H w w') (hne : ∀ ad, A = some ad → ad.block ≠ H) : Sl w' A n l := by
  obtain ⟨h3, h4, h5, h6⟩ := h
  refine ⟨h3, h4, h5, ?_⟩
  rcases h6 with h6 | ⟨b, off, rfl, h7⟩
  · exact .inl h6
  · exact .inr ⟨b, off, rfl, fun k hk => by rw [ho.cell ⟨b, off + k, none⟩ (show b ≠ H from hne ⟨b, off, none⟩ rfl)]; exact h7 k hk⟩
theorem ga_at {w : World} {A : Option Addr} {n : Nat} {l : List Int} (h : Sl w A n l) {i : Nat} (hi : i < n) : ∃ b off, A = some ⟨b, off, none⟩ ∧ ∀ k, k < n → w.cell? ⟨b, off + k, none⟩ = some (.int .i64 (l.getD k 0)) := by
  rcases h.2.2.2 with h | h
  · omega
  · exact h
theorem Prios.least {l : List PGa.Ord} {w w' : World} {P : Option Addr} {m c : Nat} {ps : List Int} (h : Prios l w P m c ps w') {i : Nat} (hi : i < l.length) : 0 < m ∧ ps.getD 0 0 ≤ PGa.pr l i := by
  obtain ⟨j, hj, e⟩ := h.got i hi
  rw [← e]
  by_cases e0 : j = 0
  · subst e0; exact ⟨hj, Int.le_refl _⟩
  · exact ⟨by omega, Int.le_of_lt (h.up 0 j (by omega) hj)⟩
theorem Prios.next_below {l : List PGa.Ord} {w w' : World} {P : Option Addr} {m c : Nat} {ps : List Int} (h : Prios l w P m c ps w') {k : Nat} (hk : k + 1 < m) : PGa.below l (ps.getD (k + 1) 0) = PGa.below l (ps.getD k 0) + PGa.atP l (ps.getD k 0) :=
  PGa.below_next (h.up k (k + 1) (by omega) hk) (fun i hi hlt2 => by
    obtain ⟨t, ht, e⟩ := h.got i hi
    rw [← e] at hlt2 ⊢
    by_cases h1 : t ≤ k
    · by_cases h2 : t = k
      · subst h2; exact Int.le_refl _
      · exact Int.le_of_lt (h.up t k (by omega) (by omega))
    · exfalso
      by_cases h2 : t = k + 1
      · subst h2; omega
      · have := h.up (k + 1) t (by omega) ht; omega)
theorem Prios.next_val {l : List PGa.Ord} {w w' : World} {P : Option Addr} {m c : Nat} {ps : List Int} (h : Prios l w P m c ps w') {k : Nat} (hlt : k < m) {i T R : Nat} (hi : i < l.length) (hR : R = T - PGa.below l (ps.getD k 0)) :
    (if ps.getD k 0 ≤ PGa.pr l i then 0 else ((PGa.served T l i : Nat) : Int)) + ((PGa.share R l (ps.getD k 0) i : Nat) : Int) = if k + 1 < m ∧ ps.getD (k + 1) 0 ≤ PGa.pr l i then 0 else ((PGa.served T l i : Nat) : Int) := by
  obtain ⟨t, ht, e⟩ := h.got i hi
  have hup : k + 1 < m → ps.getD k 0 < ps.getD (k + 1) 0 := fun h1 => h.up k (k + 1) (by omega) h1
  obtain ⟨p, hp⟩ : ∃ p, ps.getD k 0 = p := ⟨_, rfl⟩
  rw [hp] at hR hup ⊢
  by_cases h1 : PGa.pr l i < p
  · rw [if_neg (by omega), PGa.share_none (by omega), if_neg (fun h2 => by have := hup h2.1; omega)]
    simp
  · rw [if_pos (by omega)]
    by_cases h2 : PGa.pr l i = p
    · rw [if_neg (fun h3 => by have := hup h3.1; omega), PGa.served_share, h2, ← hR]
      simp
    · rw [PGa.share_none h2]
      have h3 : k < t := by
        by_cases h4 : t ≤ k
        · exfalso
          by_cases h5 : t = k
          · subst h5; omega
          · have := h.up t k (by omega) hlt; omega
        · omega
      rw [if_pos ⟨by omega, by
        rw [← e]
        by_cases h5 : t = k + 1
        · subst h5; exact Int.le_refl _
        · exact Int.le_of_lt (h.up (k + 1) t (by omega) ht)⟩]
      rfl
/-- What there is. -/
def PGa.there (net prot : Int) : Nat := (max (net - prot) 0).toNat
theorem PGa.err_ok {net prot : Int} {l : List PGa.Ord} (h : PGa.err net prot l = 0) : l.length ≤ 8 ∧ 0 ≤ prot ∧ prot ≤ 1125899906842624 ∧ -1125899906842624 ≤ net ∧ net ≤ 1125899906842624 ∧ PGa.Ok l := by
  unfold PGa.err at h
  by_cases h8 : 8 < l.length
  · rw [if_pos h8] at h; cases h
  · rw [if_neg h8] at h
    by_cases h1 : prot < 0 ∨ l.any PGa.low = true
    · rw [if_pos h1] at h; cases h
    · rw [if_neg h1] at h
      by_cases h2 : (net < -1125899906842624 ∨ 1125899906842624 < net) ∨ 1125899906842624 < prot ∨ l.any PGa.over = true
      · rw [if_pos h2] at h; cases h
      · refine ⟨by omega, by omega, by omega, by omega, by omega, fun i hi => ?_⟩
        have a1 : PGa.low l[i] = false := Bool.eq_false_iff.2 (fun k => h1 (.inr (List.any_eq_true.2 ⟨_, List.getElem_mem hi, k⟩)))
        have a2 : PGa.over l[i] = false := Bool.eq_false_iff.2 (fun k => h2 (.inr (.inr (List.any_eq_true.2 ⟨_, List.getElem_mem hi, k⟩))))
        unfold PGa.low at a1
        unfold PGa.over at a2
        simp at a1 a2
        omega
/-- What is served: a list in a block that is new. -/
def ServeR (n : Nat) (l : List Int) (w : World) (e : Ending) (w' : World) : Prop := ∃ B, e = .returned (.tuple #[.slice (some ⟨B, 0, none⟩) n n, .int .i64 0]) ∧ w.heap.size ≤ B ∧ Sl w' (some ⟨B, 0, none⟩) n l ∧ Below w.heap.size w w'

set_option maxHeartbeats 3200000 in
theorem gaserve_no {A : Option Addr} {n cap : Nat} {l : List PGa.Ord} {w : World} {net prot : Int} (h : SlO w A n l) (he : PGa.err net prot l ≠ 0) :
    Calls Try.prog 11 #[.int .i64 net, .int .i64 prot, .slice A n cap] w fun e w' => e = .returned (.tuple #[.slice none 0 0, .int .i64 (PGa.err net prot l)]) ∧ Below w.heap.size w w' := by
  have HF := Lib.hid (gafault_any (cap := cap) (net := net) (prot := prot) h)
  obtain ⟨E, hE⟩ : ∃ E, PGa.err net prot l = E := ⟨_, rfl⟩
  rw [hE] at HF he ⊢
  have e0 : (E != 0) = true := bne_iff_ne.2 he
  clear h he hE
  go_enter Try.func11, Try.ntmps11
  go_wp2_with fail
  refine HF.out.mono ?_
  rintro _ w2 ⟨rfl, b2⟩
  have B2 := Lib.hid b2
  clear b2
  go_wp2_with fail
  go_ret2
  exact ⟨rfl, B2.out⟩

set_option maxHeartbeats 6400000 in
set_option maxRecDepth 100000 in
theorem gaserve_yes {A : Option Addr} {n cap : Nat} {l : List PGa.Ord} {w : World} {net prot : Int} (h : SlO w A n l) (he : PGa.err net prot l = 0) :
    Calls Try.prog 11 #[.int .i64 net, .int .i64 prot, .slice A n cap] w (ServeR n (PSplit.wlist (PGa.served (PGa.there net prot) l) n) w) := by
  have hF := gafault_any (cap := cap) (net := net) (prot := prot) h
  rw [he] at hF
  have HF := Lib.hid hF
  obtain ⟨h8, p0, p1, n0, n1, hok⟩ := PGa.err_ok he
  have hlen := h.len
  have hn : n ≤ 8 := by omega
  have H := Lib.hid h
  have hl := Lib.hid hlen
  have HOK := Lib.hid hok
  obtain ⟨T, hT⟩ : ∃ T, PGa.there net prot = T := ⟨_, rfl⟩
  rw [hT]
  have hTI : max (net - prot) 0 = (T : Int) := by rw [← hT]; unfold PGa.there; omega
  have hT51 : T ≤ 1125899906842624 := by omega
  have hsub : IntKind.i64.wrap (net - prot) = net - prot := by rw [IntKind.wrap_i64]; omega
  have hmk := make_row n (by omega)
  have CP : Hid (∀ w', Below w.heap.size w w' → Calls Try.prog 17 #[.slice A n cap] w' (PrioR l w')) := Lib.hid (fun w' hb => prio_any (h.on hb) hn)
  have CW : Hid (∀ w' p, Below w.heap.size w w' → Calls Try.prog 19 #[.slice A n cap, .int .i64 p] w' (NewR n (PSplit.wlist (PGa.grp l p) n) w')) := Lib.hid (fun w' p hb => wants_any (h.on hb) hn hok)
  have CS : Hid (∀ w' B p R, Sl w' (some ⟨B, 0, none⟩) n (PSplit.wlist (PGa.grp l p) n) → B ≤ w'.heap.size → R ≤ 1125899906842624 → Calls Try.prog 18 #[.int .i64 (R : Nat), .slice (some ⟨B, 0, none⟩) n n] w' (ShareR B n (PSplit.wlist (PGa.share R l p) n) w')) := Lib.hid (fun w' B p R hs hB hR => gashare_any hlen hn hok hs (fun ad e => by cases e; exact Nat.le_refl _) hB (by omega))
  clear h he h8 hok hF hT hlen p0 p1 n0 n1
  go_enter Try.func11, Try.ntmps11
  go_wp2_with fail
  refine HF.out.mono ?_
  rintro _ w2 ⟨rfl, b2⟩
  have B2 := Lib.hid b2
  clear b2 HF
  go_upto_region 5 with fail
  obtain ⟨Q, hQ⟩ : ∃ Q, w2.heap.size = Q := ⟨_, rfl⟩
  have HQ : Hid (w.heap.size ≤ Q) := Lib.hid (by rw [← hQ]; exact B2.out.size)
  have R4 : Hid (Rw (w2.alloc (.cells (madeCells #[.int .i64 0] n) 3)) Q n (List.replicate n 0)) := Lib.hid (by rw [← hQ]; exact Rw.of_row (made_row w2 _ n rfl (by omega)) List.length_replicate)
  have B4 : Hid (Below w.heap.size w (w2.alloc (.cells (madeCells #[.int .i64 0] n) 3))) := Lib.hid (below_step B2.out ((Below.refl _ _).alloc (Nat.le_refl _) _))
  have S4 : Hid (Q < (w2.alloc (.cells (madeCells #[.int .i64 0] n) 3)).heap.size) := Lib.hid (by simp [hQ])
  (try rw [hQ])
  generalize w2.alloc (.cells (madeCells #[.int .i64 0] n) 3) = w4 at *
  clear hmk hQ B2
  go_wp2_with fail
  refine (CP.out _ B4.out).mono ?_
  rintro _ w5 ⟨P, m, c, ps, rfl, hP⟩
  have HP := Lib.hid hP
  have R5 := Lib.hid (R4.out.on hP.below); have B5 := Lib.hid (below_step B4.out hP.below); have S5 := Lib.hid (Nat.lt_of_lt_of_le S4.out hP.below.size)
  have NP : Hid (∀ ad, P = some ad → Q < ad.block) := Lib.hid (fun ad e => Nat.lt_of_lt_of_le S4.out (hP.fresh ad e))
  have SP := Lib.hid hP.sl
  have hm8 : m ≤ 8 := by have := hP.few; have := hl.out; omega
  clear hP R4 B4 S4 CP hTI hsub
  go_wp2_with fail
  go_loopw [10, 34] (fun L i wr => ∃ (k R : Nat) (q : List Int), k ≤ m ∧ L = .int .i64 (R : Int) ∧ i = .int .i64 k ∧ R ≤ T ∧ Hid (k < m → R = T - PGa.below l (ps.getD k 0)) ∧ Hid (Rw wr Q n q) ∧
      Hid (∀ i, i < n → q.getD i 0 = if k < m ∧ ps.getD k 0 ≤ PGa.pr l i then 0 else ((PGa.served T l i : Nat) : Int)) ∧ Hid (Sl wr P m ps) ∧ Hid (Q < wr.heap.size) ∧ Hid (Below w.heap.size w wr)) (fun _ i _ => m - (intOf i).toNat)
  case atStart =>
    refine ⟨0, T, _, Nat.zero_le _, rfl, rfl, Nat.le_refl _, (show Hid _ from fun h => ?_), R5, (show Hid _ from fun i hi => ?_), SP, S5, B5⟩
    · rw [PGa.below_first (fun i hi => (HP.out.least hi).2), Nat.sub_zero]
    · rw [if_pos (HP.out.least (by rw [hl.out]; exact hi)), List.getD, List.getElem?_replicate, if_pos hi]; rfl
  case round =>
    clear R5 B5 S5 SP
    obtain ⟨k, R, q, hk, rfl, rfl, hRT, HRB, HR, HQV, SP, S5, B5⟩ := hrel
    by_cases hlt : k < m
    · obtain ⟨bP, off, rfl, hc⟩ := ga_at SP.out hlt
      have c1 := hc k hlt
      obtain ⟨p, hp⟩ : ∃ p, ps.getD k 0 = p := ⟨_, rfl⟩
      rw [hp] at c1
      have i1 : (0 : Int) ≤ (k : Int) := by omega
      have i2 : (k : Int) < (m : Int) := by omega
      have hRB := HRB.out hlt
      rw [hp] at hRB
      have HPP := Lib.hid hp
      have HQ2 : Hid (∀ i, i < n → q.getD i 0 = if p ≤ PGa.pr l i then 0 else ((PGa.served T l i : Nat) : Int)) := Lib.hid (fun i hi => by
        rw [HQV.out i hi, hp]
        by_cases h : p ≤ PGa.pr l i
        · rw [if_pos ⟨hlt, h⟩, if_pos h]
        · rw [if_neg (fun k => h k.2), if_neg h])
      have HRB2 := Lib.hid hRB
      clear hc hp hRB HQV HRB
      go_wp2_with fail
      refine (CW.out _ p B5.out).mono ?_
      rintro _ w6 ⟨rfl, s6, b6⟩
      have C6 := Lib.hid (CS.out w6 wr.heap.size p R s6 b6.size (by omega))
      have R6 := Lib.hid (HR.out.on b6); have B6 := Lib.hid (below_step B5.out b6); have S6 := Lib.hid (Nat.lt_of_lt_of_le S5.out b6.size); have SP6 := Lib.hid (SP.out.on b6)
      clear s6 b6 c1
      go_wp2_with fail
      refine C6.out.mono ?_
      rintro _ w7 ⟨B, cB, rfl, s7, b7, f7⟩
      have S7P := Lib.hid s7
      have R7 := Lib.hid (R6.out.on b7); have B7 := Lib.hid (below_step B6.out b7); have S7 := Lib.hid (Nat.lt_of_lt_of_le S6.out b7.size); have SP7 := Lib.hid (SP6.out.on b7)
      have NB : Hid (∀ ad, B = some ad → Q < ad.block) := Lib.hid (fun ad e => Nat.lt_of_lt_of_le S5.out (f7 ad e))
      have HSU : Hid (∀ j, j ≤ n → PSplit.sumN (PGa.share R l p) j ≤ R) := Lib.hid (fun j hj => by
        have h1 := PGa.share_sum R l p
        rw [hl.out] at h1
        have h2 := PSplit.sumN_upto (PGa.share R l p) hj
        omega)
      have HQB : Hid (∀ i, i < n → 0 ≤ q.getD i 0 ∧ q.getD i 0 ≤ 1125899906842624) := Lib.hid (fun i hi => by
        rw [HQ2.out i hi]
        have h1 := PGa.served_le T l i
        have h2 := HOK.out.wn_le i
        split <;> omega)
      clear s7 b7 f7 R6 B6 S6 SP6 C6
      go_wp2_with fail
      go_loopw [10, 51] (fun L i wy => ∃ (j R2 : Nat) (q2 : List Int), j ≤ n ∧ L = .int .i64 (R2 : Int) ∧ i = .int .i64 j ∧ R2 = R - PSplit.sumN (PGa.share R l p) j ∧ Hid (Rw wy Q n q2) ∧ Hid (∀ i, i < n → q2.getD i 0 = if i < j then q.getD i 0 + ((PGa.share R l p i : Nat) : Int) else q.getD i 0) ∧ Hid (Only Q w7 wy)) (fun _ i _ => n - (intOf i).toNat)
      case atStart => exact ⟨0, R, q, Nat.zero_le _, rfl, rfl, rfl, R7, (show Hid _ from fun i hi => by rw [if_neg (by omega)]), (show Hid _ from Only.refl _ _)⟩
      case round =>
        obtain ⟨j, R2, q2, hj, rfl, rfl, hR2, RY, QY, OY⟩ := hrel
        by_cases hjt : j < n
        · have hS := sl_only S7P.out OY.out (fun ad e => by have := NB.out ad e; omega)
          obtain ⟨b8, o8, rfl, h8⟩ := ga_at hS hjt
          have c3 := h8 j hjt
          rw [PSplit.wlist_get hjt] at c3
          have c1 := (RY.out.2 j hjt).1; have c2 := (RY.out.2 j hjt).2
          rw [QY.out j hjt, if_neg (by omega)] at c1
          have hu1 := HSU.out (j + 1) hjt
          have hu2 : PSplit.sumN (PGa.share R l p) (j + 1) = PSplit.sumN (PGa.share R l p) j + PGa.share R l p j := rfl
          have hqb := HQB.out j hjt
          obtain ⟨g, hg⟩ : ∃ g, PGa.share R l p j = g := ⟨_, rfl⟩
          obtain ⟨v, hv⟩ : ∃ v, q.getD j 0 = v := ⟨_, rfl⟩
          rw [hg] at c3 hu2; rw [hv] at c1 hqb
          have e1 : IntKind.i64.wrap (v + (g : Int)) = v + (g : Int) := by rw [IntKind.wrap_i64]; omega
          have e2 : IntKind.i64.wrap ((R2 : Int) - (g : Int)) = ((R2 - g : Nat) : Int) := by rw [IntKind.wrap_i64]; omega
          have i3 : (0 : Int) ≤ (j : Int) := by omega
          have i4 : (j : Int) < (n : Int) := by omega
          have HR3 : Hid (R2 - g = R - PSplit.sumN (PGa.share R l p) (j + 1)) := Lib.hid (by omega)
          have R8 : Hid (Rw (wr.setCell ⟨Q, j, none⟩ (.int .i64 (v + (g : Int)))) Q n (q2.set j (v + (g : Int)))) := Lib.hid (RY.out.set hjt _)
          have O8 : Hid (Only Q w7 (wr.setCell ⟨Q, j, none⟩ (.int .i64 (v + (g : Int))))) := Lib.hid (OY.out.set j _)
          have Q8 : Hid (∀ i, i < n → (q2.set j (v + (g : Int))).getD i 0 = if i < j + 1 then q.getD i 0 + ((PGa.share R l p i : Nat) : Int) else q.getD i 0) := Lib.hid (fun i hi => by
            rw [set_get RY.out.1 hjt]
            by_cases e : i = j
            · subst e; rw [if_pos rfl, if_pos (by omega), hv, hg]
            · rw [if_neg e, QY.out i hi]
              by_cases h : i < j
              · rw [if_pos h, if_pos (by omega)]
              · rw [if_neg h, if_neg (by omega)])
          clear hS h8 hu1 hu2 hqb hg hv hR2
          go_wp2_with fail
          exact ⟨⟨j + 1, R2 - g, _, by omega, rfl, by congr 1, HR3.out, R8, Q8, O8⟩, by simp [intOf]; omega⟩
        · obtain rfl : j = n := by omega
          have B8 := Lib.hid (OY.out.below HQ.out B7.out)
          have S8 : Hid (Q < wr.heap.size) := Lib.hid (by rw [OY.out.size]; exact S7.out)
          have SP8 := Lib.hid (sl_only SP7.out OY.out (fun ad e => by have := NP.out ad e; omega))
          have hsum : PSplit.sumN (PGa.share R l p) j = min R (PGa.atP l p) := by have := PGa.share_sum R l p; rw [hl.out] at this; exact this
          have HN : Hid (k + 1 < m → R2 = T - PGa.below l (ps.getD (k + 1) 0)) := Lib.hid (fun h => by
            have hb := HP.out.next_below h
            rw [HPP.out] at hb
            have := HRB2.out
            omega)
          have HV : Hid (∀ i, i < j → q2.getD i 0 = if k + 1 < m ∧ ps.getD (k + 1) 0 ≤ PGa.pr l i then 0 else ((PGa.served T l i : Nat) : Int)) := Lib.hid (fun i hi => by
            have hv := HP.out.next_val hlt (i := i) (T := T) (R := R) (by rw [hl.out]; exact hi) (by rw [HPP.out]; exact HRB2.out)
            rw [HPP.out] at hv
            rw [QY.out i hi, if_pos hi, HQ2.out i hi]
            exact hv)
          have hR2T : R2 ≤ T := by omega
          clear hR2 hsum
          go_wp2_with fail
          exact ⟨⟨k + 1, R2, q2, by omega, rfl, by congr 1, hR2T, HN, RY, HV, SP8, S8, B8⟩, by simp [intOf]; omega⟩
    · obtain rfl : k = m := by omega
      have HSL : Hid (Sl wr (some ⟨Q, 0, none⟩) n (PSplit.wlist (PGa.served T l) n)) := Lib.hid (HR.out.sl (PSplit.wlist_len _ _) (fun t ht => by rw [HQV.out t ht, if_neg (fun h => by omega), PSplit.wlist_get ht]) (fun i hi => by
        rw [PSplit.wlist_len] at hi
        rw [PSplit.wlist_get hi]
        have h1 := PGa.served_le T l i
        have h2 := HOK.out.wn_le i
        omega) (by omega))
      go_wp2_with fail
      go_ret2
      exact ⟨Q, rfl, HQ.out, HSL.out, B5.out⟩
end Go.Proofs.Ytmmgejgmlhhfdaa
