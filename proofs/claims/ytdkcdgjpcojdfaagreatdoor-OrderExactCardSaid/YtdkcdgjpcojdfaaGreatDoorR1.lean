/-
  What the reference's Digits and Text answer: the digits of a number from 0 on; the text of an amount.
  The reference's way to read an amount, byte by byte, against the plain one.
  What the reference's Parse answers: the amount of a text, or false.
  What the reference of layer 3 answers: the text of a rate; the rate of a text, or that there is none.
-/
import Derived.Test.YtdkcdgjpcojdfaaGreatDoorBase
import Derived.Test.YtdkcdgjpcojdfaaGreatDoorPM
import Derived.Test.YtdkcdgjpcojdfaaGreatDoorShelf
import Derived.Laws.IdiomStrings
import Derived.Test.YtdkcdgjpcojdfaaGreatDoorMP
import Derived.Deep.DeepCutAuto

namespace Go.Proofs.YtdkcdgjpcojdfaaGreatDoor
open Go.RowKit

def ahead10 (m : Nat) : List UInt8 := if m < 10 then [] else Lib.decDigits (m / 10)
theorem ahead10_step (m : Nat) : ahead10 m ++ [UInt8.ofNat (48 + m % 10)] = Lib.decDigits m := by
  unfold ahead10
  by_cases h : m < 10
  · rw [if_pos h, PMoney.dec_small m h, show m % 10 = m by omega]; rfl
  · rw [if_neg h]; conv => rhs; rw [Lib.decDigits, dif_neg h]

def dig1 (m : Nat) : List UInt8 := [UInt8.ofNat (48 + m % 10)]
theorem dig1_len (m : Nat) : (dig1 m).length ≤ 1 := Nat.le_refl _
theorem ahead10_dig (m : Nat) (x : List UInt8) : ahead10 m ++ (dig1 m ++ x) = Lib.decDigits m ++ x := by
  rw [← List.append_assoc]; unfold dig1; rw [ahead10_step]
theorem convert_one (W : World) (m : Nat) : (convert 105 9 (.slice (some ⟨W.heap.size, 0, none⟩) 1 1)).run Tryz.prog (W.alloc (.cells #[.int .u8 (48 + (m : Int) % 10)] 5)) = .ok (.string ⟨(dig1 m).toArray⟩) (W.alloc (.cells #[.int .u8 (48 + (m : Int) % 10)] 5)) := by
  refine run_convert_bytes_back _ 105 9 5 ⟨W.heap.size, 0, none⟩ 1 (dig1 m) Tryz.underlying105 Tryz.underlying5 Tryz.underlying9 fun j hj => ?_
  have h0 : j = 0 := by have := dig1_len m; omega
  subst h0
  simp only [Addr.add, if_true]
  rw [World.cell?_alloc_new]
  have : (UInt8.ofNat (48 + m % 10)).toNat = 48 + m % 10 := by rw [UInt8.toNat_ofNat']; omega
  simp only [dig1, List.getElem_cons_zero]
  rw [this]
  simp

set_option maxRecDepth 100000 in
set_option maxHeartbeats 800000 in
theorem digits_nat (n : Nat) (w : World) (hn : n ≤ 9223372036854775807) :
    Calls Tryz.prog 114 #[.int .i64 n] w fun e w' => e = .returned (.string ⟨(Lib.decDigits n).toArray⟩) ∧ Below w.heap.size w w' := by
  have hl := dec_len n hn
  have hcv := convert_one w n
  go_enter Tryz.func114, Tryz.ntmps114
  go_wp2_with fail
  clear hcv
  go_loopw [0, 3] (fun a s wr => ∃ (m : Nat) (x : List UInt8), m ≤ n ∧ a = .int .i64 m ∧ s = .string ⟨x.toArray⟩ ∧ x.length ≤ 21 ∧ Lib.decDigits n = ahead10 m ++ x ∧ Below w.heap.size w wr) (fun a _ _ => (intOf a).toNat)
  case atStart => exact ⟨n, dig1 n, Nat.le_refl _, rfl, rfl, by have := dig1_len n; omega, by have := ahead10_dig n []; simpa using this.symm, (Below.refl _ _).alloc (Nat.le_refl _) _⟩
  case round =>
    obtain ⟨m, x, hm, rfl, rfl, hx, hd, hb⟩ := hrel
    have HD := Lib.hid hd; clear hd
    by_cases hlt : m < 10
    · have HR : Hid (Lib.decDigits n = x) := Lib.hid (by have := HD.out; unfold ahead10 at this; rw [if_pos hlt] at this; simpa using this)
      go_wp2
      go_ret
      exact ⟨ret_str (by rw [HR.out]), hb⟩
    · obtain ⟨k, hk⟩ : ∃ k, m / 10 = k := ⟨_, rfl⟩
      have hcv := convert_one wr k
      have hki : ((m : Int) / 10) = (k : Int) := by omega
      have hk2 : k ≤ 9223372036854775807 := by omega
      have hk3 : k < m := by omega
      have HK := Lib.hid hk; clear hk
      have h1 := dig1_len k
      have HY : Hid (Lib.decDigits n = ahead10 k ++ (dig1 k ++ x)) := Lib.hid (by
        rw [ahead10_dig, HD.out]; unfold ahead10; rw [if_neg hlt, HK.out])
      have hy : (dig1 k ++ x).length ≤ 21 := by
        have h2 := congrArg List.length HY.out
        rw [List.length_append] at h2
        omega
      go_wp2_with fail
      refine ⟨⟨k, dig1 k ++ x, by omega, rfl, congrArg Value.string (ByteArray.mk_append_mk _ _), hy, HY.out, hb.alloc hb.size _⟩, ?_⟩
      simp [intOf]; omega
theorem digits_any (n : Int) (w : World) (h0 : 0 ≤ n) (hn : n ≤ 9223372036854775807) :
    Calls Tryz.prog 114 #[.int .i64 n] w fun e w' => e = .returned (.string ⟨(Lib.decDigits n.toNat).toArray⟩) ∧ Below w.heap.size w w' := by
  obtain ⟨i, rfl⟩ := Int.eq_ofNat_of_zero_le h0
  exact digits_nat i w (by omega)

theorem reftext_list (n : Int) (h : 0 ≤ n) : Lib.decDigits (n / 100).toNat ++ [46] ++ Lib.decDigits (n % 100 / 10).toNat ++ Lib.decDigits (n % 10).toNat = PMoney.text n := by
  obtain ⟨i, rfl⟩ := Int.eq_ofNat_of_zero_le h
  unfold PMoney.text PMoney.textNat
  rw [if_neg (by omega), show ((i : Int) / 100).toNat = i / 100 by omega, show ((i : Int) % 100 / 10).toNat = i % 100 / 10 by omega, show ((i : Int) % 10).toNat = i % 10 by omega, show (i : Int).natAbs = i by omega, PMoney.dec_small (i % 10) (by omega), PMoney.dec_small (i % 100 / 10) (by omega)]
  simp

set_option maxHeartbeats 1600000 in
theorem reftext_pos (n : Int) (w : World) (h0 : 0 ≤ n) (h1 : n ≤ 9223372036854775807) :
    Calls Tryz.prog 96 #[.int .i64 n] w fun e w' => e = .returned (.string ⟨(PMoney.text n).toArray⟩) ∧ Below w.heap.size w w' := by
  have HL := Lib.hid (reftext_list n h0)
  have l1 := dec_len (n / 100).toNat (by omega)
  have l2 := dec_len (n % 100 / 10).toNat (by omega)
  have l3 := dec_len (n % 10).toNat (by omega)
  go_enter Tryz.func96, Tryz.ntmps96
  go_wp2_with fail
  refine (digits_any _ _ (by omega) (by omega)).mono ?_
  rintro _ w1 ⟨rfl, hb1⟩
  go_wp2_with fail
  refine (digits_any _ _ (by omega) (by omega)).mono ?_
  rintro _ w2 ⟨rfl, hb2⟩
  go_wp2_with fail
  refine (digits_any _ _ (by omega) (by omega)).mono ?_
  rintro _ w3 ⟨rfl, hb3⟩
  go_wp2
  go_ret
  refine ⟨ret_str ?_, below_step (below_step hb1 hb2) hb3⟩
  rw [← HL.out]
  exact (congrArg (· ++ _) ((congrArg (· ++ _) (ByteArray.mk_append_mk _ [46])).trans (ByteArray.mk_append_mk _ _))).trans (ByteArray.mk_append_mk _ _)
set_option maxHeartbeats 1600000 in
theorem reftext_neg (m : Int) (w : World) (h0 : 0 < m) (h1 : m ≤ 9223372036854775807) :
    Calls Tryz.prog 96 #[.int .i64 (-m)] w fun e w' => e = .returned (.string ⟨(45 :: PMoney.text m).toArray⟩) ∧ Below w.heap.size w w' := by
  obtain ⟨l1, l2⟩ := text_len m (by omega) h1
  go_enter Tryz.func96, Tryz.ntmps96
  go_wp2_with fail
  refine (reftext_pos _ _ (by omega) (by omega)).mono ?_
  rintro _ w1 ⟨rfl, hb1⟩
  go_wp2
  go_ret
  exact ⟨ret_str (ByteArray.mk_append_mk [45] _), hb1⟩
theorem reftext_any (n : Int) (w : World) (h0 : -9223372036854775807 ≤ n) (h1 : n ≤ 9223372036854775807) :
    Calls Tryz.prog 96 #[.int .i64 n] w fun e w' => e = .returned (.string ⟨(PMoney.text n).toArray⟩) ∧ Below w.heap.size w w' := by
  by_cases hn : n < 0
  · have := reftext_neg (-n) w (by omega) (by omega)
    rw [text_neg n hn, Int.neg_neg] at this
    exact this
  · exact reftext_pos n w (by omega) h1
end Go.Proofs.YtdkcdgjpcojdfaaGreatDoor

namespace PMoney
open Go

def rstep (L j m : Nat) (c : UInt8) : Option Nat := if j + 3 = L then (if c = 46 then some m else none) else stepN m c
def racc (l : List UInt8) : Nat → Option Nat
  | 0 => some 0
  | j + 1 => (racc l j).bind fun m => (l[j]?).bind fun c => rstep l.length j m c

theorem racc_next {l : List UInt8} {j m : Nat} {c : UInt8} (h : racc l j = some m) (hc : l[j]? = some c) : racc l (j + 1) = rstep l.length j m c := by
  simp only [racc, h, hc, Option.bind_some]
theorem racc_none {l : List UInt8} {j : Nat} (h : racc l j = none) : ∀ k, racc l (j + k) = none
  | 0 => h
  | k + 1 => by
    show (racc l (j + k)).bind _ = none
    rw [racc_none h k]; rfl
theorem racc_none' {l : List UInt8} {j : Nat} (h : racc l j = none) (hj : j ≤ l.length) : racc l l.length = none := by
  have := racc_none h (l.length - j)
  rwa [show j + (l.length - j) = l.length by omega] at this
theorem take_snoc_get {l : List UInt8} {j : Nat} {c : UInt8} (h : l[j]? = some c) : l.take (j + 1) = l.take j ++ [c] := by
  obtain ⟨hl, he⟩ := List.getElem?_eq_some_iff.1 h
  rw [List.take_succ_eq_append_getElem hl, he]
theorem racc_front (l : List UInt8) : ∀ j, j + 3 ≤ l.length → racc l j = appN 0 (l.take j)
  | 0, _ => rfl
  | j + 1, h => by
    have hj : j < l.length := by omega
    have hc : l[j]? = some l[j] := List.getElem?_eq_getElem hj
    rw [take_snoc_get hc, appN_snoc, ← racc_front l j (by omega)]
    show (racc l j).bind _ = _
    rw [hc]
    congr 1
    funext m
    show rstep l.length j m l[j] = _
    unfold rstep
    rw [if_neg (by omega)]
theorem racc_wide (l : List UInt8) (h : 4 ≤ l.length) : racc l l.length = wideOf l := by
  obtain ⟨n, hn⟩ : ∃ n, l.length = n + 3 := ⟨l.length - 3, by omega⟩
  have h0 : l[n]? = some l[n] := List.getElem?_eq_getElem (by omega)
  have h1 : l[n + 1]? = some l[n + 1] := List.getElem?_eq_getElem (by omega)
  have h2 : l[n + 2]? = some l[n + 2] := List.getElem?_eq_getElem (by omega)
  have e : racc l (n + 3) = (((racc l n).bind fun m => rstep l.length n m l[n]).bind fun m => rstep l.length (n + 1) m l[n + 1]).bind fun m => rstep l.length (n + 2) m l[n + 2] := by
    show ((((racc l n).bind _).bind _).bind _) = _
    rw [h0, h1, h2]; rfl
  have hd : l.drop (l.length - 2) = [l[n + 1], l[n + 2]] := by
    apply List.ext_getElem?
    intro i
    rw [List.getElem?_drop, show l.length - 2 + i = n + 1 + i by omega]
    match i with
    | 0 => simp
    | 1 => exact h2
    | i + 2 => rw [List.getElem?_eq_none (by omega)]; simp
  have ht : l.take (l.length - 3) = l.take n := by rw [show l.length - 3 = n by omega]
  have hdot : l[l.length - 3]? = some l[n] := by rw [show l.length - 3 = n by omega]; exact h0
  unfold wideOf
  rw [hd, ht, hdot]
  conv => lhs; rw [show racc l l.length = racc l (n + 3) by rw [hn]]
  rw [e, racc_front l n (by omega)]
  cases hap : appN 0 (l.take n) with
  | none => simp
  | some v =>
    simp only [Option.bind_some]
    have r0 : rstep l.length n v l[n] = if l[n] = 46 then some v else none := by unfold rstep; rw [if_pos (by omega)]
    rw [r0]
    by_cases hc : l[n] = 46
    · rw [if_pos hc, if_pos ⟨h, by rw [hc]⟩]
      simp only [Option.bind_some]
      have r1 : ∀ m, rstep l.length (n + 1) m l[n + 1] = stepN m l[n + 1] := fun m => by unfold rstep; rw [if_neg (by omega)]
      have r2 : ∀ m, rstep l.length (n + 2) m l[n + 2] = stepN m l[n + 2] := fun m => by unfold rstep; rw [if_neg (by omega)]
      rw [r1]
      simp only [appN]
      cases stepN v l[n + 1] with
      | none => rfl
      | some k =>
        simp only [Option.bind_some]
        rw [r2]
        cases stepN k l[n + 2] with
        | none => rfl
        | some q => rfl
    · rw [if_neg hc, if_neg (fun hx => hc (by have := hx.2; injection this))]
      rfl
theorem parse_none_of {l : List UInt8} (h : racc (bare l) (bare l).length = none) : parse l = none := by
  rcases hp : parse l with _ | n
  · rfl
  · obtain ⟨h1, _, h3⟩ := parse_some hp
    have h4 : 4 ≤ (bare l).length := by unfold wideOf at h3; split at h3; · rename_i hc; exact hc.1
                                        · cases h3
    rw [racc_wide _ h4, h3] at h
    cases h
theorem parse_none_short {l : List UInt8} (h : (bare l).length < 4) : parse l = none := by
  unfold parse sizeOf
  rw [if_neg (by omega)]; rfl
theorem parse_yes {l : List UInt8} {m : Nat} {n : Int} (h : racc (bare l) (bare l).length = some m) (h4 : 4 ≤ (bare l).length) (hn : n.natAbs = m) (hm : m ≤ MM) (ht : text n = l) : parse l = some n :=
  (parse_iff l n).2 ⟨by rw [← racc_wide _ h4, h, hn], ht, by omega⟩
theorem parse_no {l : List UInt8} {m : Nat} {n : Int} (h : racc (bare l) (bare l).length = some m) (h4 : 4 ≤ (bare l).length) (hn : n = if l.head? = some 45 then -(m : Int) else (m : Int)) (ht : text n ≠ l) : parse l = none := by
  rcases hp : parse l with _ | k
  · rfl
  · exfalso
    obtain ⟨h1, _, h3⟩ := parse_some hp
    rw [← racc_wide _ h4, h] at h3
    injection h3 with h3
    have hs := text_minus k
    rw [h1] at hs
    apply ht
    rw [← h1]
    congr 1
    by_cases hk : k < 0
    · rw [if_pos (hs.2 hk)] at hn; omega
    · rw [if_neg (fun e => hk (hs.1 e))] at hn; omega
end PMoney

namespace Go.Proofs.YtdkcdgjpcojdfaaGreatDoor
open Go.RowKit

def RefAns (l : List UInt8) (w : World) (e : Ending) (w' : World) : Prop :=
  ∃ (x : Int) (b : Bool), e = .returned (.tuple #[.int .i64 x, .bool b]) ∧ b = (PMoney.parse l).isSome ∧ (∀ n, PMoney.parse l = some n → x = n) ∧ Below w.heap.size w w'
theorem refAns_none {l : List UInt8} {w w' : World} {x : Int} (h : PMoney.parse l = none) (hb : Below w.heap.size w w') : RefAns l w (.returned (.tuple #[.int .i64 x, .bool false])) w' :=
  ⟨x, false, rfl, by rw [h]; rfl, (fun n hn => by rw [h] at hn; cases hn), hb⟩
theorem refAns_some {l : List UInt8} {w w' : World} {x : Int} (h : PMoney.parse l = some x) (hb : Below w.heap.size w w') : RefAns l w (.returned (.tuple #[.int .i64 x, .bool true])) w' :=
  ⟨x, true, rfl, by rw [h]; rfl, (fun n hn => by rw [h] at hn; injection hn), hb⟩

theorem rstep_dot {L j m : Nat} {c : UInt8} (hj : j + 3 = L) (hc : c = 46) : PMoney.rstep L j m c = some m := by unfold PMoney.rstep; rw [if_pos hj, if_pos hc]
theorem rstep_dotno {L j m : Nat} {c : UInt8} (hj : j + 3 = L) (hc : c ≠ 46) : PMoney.rstep L j m c = none := by unfold PMoney.rstep; rw [if_pos hj, if_neg hc]
theorem rstep_dig {L j m : Nat} {c : UInt8} (hj : j + 3 ≠ L) : PMoney.rstep L j m c = PMoney.stepN m c := by unfold PMoney.rstep; rw [if_neg hj]

def Rest (s t : ByteArray) (b : Bool) : Prop :=
  t.data.toList = PMoney.bare s.data.toList ∧ ((b = true ∧ t = s.extract 1 s.size ∧ 0 < s.size ∧ s.data.toList.head? = some 45) ∨ (b = false ∧ t = s ∧ ¬ s.data.toList.head? = some 45))
theorem rest_of (s : ByteArray) : ∃ t b, Rest s t b := by
  by_cases h : s.data.toList.head? = some 45
  · refine ⟨s.extract 1 s.size, true, ?_, .inl ⟨rfl, rfl, ?_, h⟩⟩
    · unfold PMoney.bare
      rw [if_pos h, extract_list, List.take_of_length_le (Nat.le_of_eq (len_of s)), List.drop_one]
    · rcases Nat.eq_zero_or_pos s.size with h0 | h0
      · rw [← len_of] at h0; rw [List.eq_nil_of_length_eq_zero h0] at h; cases h
      · exact h0
  · exact ⟨s, false, by unfold PMoney.bare; rw [if_neg h], .inr ⟨rfl, rfl, h⟩⟩
theorem head_bool {s : ByteArray} (h : 0 < s.size) (hh : s.data.toList.head? = some 45) : (((s[0].toNat : Nat) : Int) == 45) = true := by
  rw [List.head?_eq_getElem?, at_of h] at hh
  injection hh with hh
  rw [hh]; rfl
theorem head_bool' {s : ByteArray} (h : 0 < s.size) (hh : ¬ s.data.toList.head? = some 45) : (((s[0].toNat : Nat) : Int) == 45) = false := by
  rw [List.head?_eq_getElem?, at_of h] at hh
  rw [beq_eq_false_iff_ne]; intro e; exact hh (by rw [UInt8.toNat_inj.1 (show s[0].toNat = (45 : UInt8).toNat from by have : (45 : UInt8).toNat = 45 := rfl; omega)])

theorem reftext_as (n : Int) (w : World) (h0 : -9223372036854775807 ≤ n) (h1 : n ≤ 9223372036854775807) (u : ByteArray) (e : u = ⟨(PMoney.text n).toArray⟩) :
    Calls Tryz.prog 96 #[.int .i64 n] w fun e w' => e = .returned (.string u) ∧ Below w.heap.size w w' := by
  rw [e]; exact reftext_any n w h0 h1

set_option maxHeartbeats 3200000 in
set_option maxRecDepth 100000 in
theorem refparse_any (s : ByteArray) (w : World) (hs : s.size ≤ 9223372036854775807) :
    Calls Tryz.prog 69 #[.string s] w (RefAns s.data.toList w) := by
  obtain ⟨t, b, hr1, hr2⟩ := rest_of s
  have R1 := Lib.hid hr1; clear hr1
  have R2 := Lib.hid hr2; clear hr2
  have hts : t.size ≤ 9223372036854775807 := by
    rcases R2.out with ⟨_, rfl, _⟩ | ⟨_, rfl, _⟩
    · simp; omega
    · exact hs
  go_enter Tryz.func69, Tryz.ntmps69
  go_upto_region 2 with fail
  go_cut [18] (fun x wx => x = .bool b ∧ w = wx)
  case first =>
    rcases R2.out with ⟨rfl, _, h0, hh⟩ | ⟨rfl, rfl, hh⟩
    · have hz := head_bool h0 hh
      clear hh
      go_wp2_with fail
      go_meet
      exact ⟨rfl, rfl⟩
    · by_cases h0 : 0 < t.size
      · have hz := head_bool' h0 hh
        clear hh
        go_wp2_with fail
        go_meet
        exact ⟨rfl, rfl⟩
      · have h1 : t.size ≤ 0 := by omega
        clear hh
        go_wp2_with fail
        go_meet
        exact ⟨rfl, rfl⟩
  case rest =>
    obtain ⟨rfl, rfl⟩ := hcut
    go_upto_if 18 with fail
    go_cut [4, 5] (fun r m wx => r = .string t ∧ m = .bool b ∧ w = wx)
    case first =>
      rcases R2.out with ⟨rfl, rfl, h0, _⟩ | ⟨rfl, rfl, _⟩
      · go_wp2_with fail
        go_meet
        exact ⟨rfl, rfl, rfl⟩
      · go_wp2_with fail
        go_meet
        exact ⟨rfl, rfl, rfl⟩
    case rest =>
      obtain ⟨rfl, rfl, rfl⟩ := hcut
      go_wp2_with fail
      go_loop [6, 7] (fun n i => ∃ (j m : Nat), j ≤ t.size ∧ i = .int .i64 j ∧ n = .int .i64 m ∧ m ≤ 9223372036854775807 ∧ PMoney.racc t.data.toList j = some m) (fun _ i => t.size - (intOf i).toNat)
      case atStart => exact ⟨0, 0, Nat.zero_le _, rfl, rfl, by omega, rfl⟩
      case round =>
        obtain ⟨j, m, hj, rfl, rfl, hm, hap⟩ := hrel
        have HA := Lib.hid hap; clear hap
        by_cases hlt : j < t.size
        · have hc : t[j].toNat < 256 := t[j].toNat_lt
          have HN : Hid (∀ k, PMoney.rstep t.size j m t[j] = some k → PMoney.racc t.data.toList (j + 1) = some k) := Lib.hid (fun k hk => by
            rw [PMoney.racc_next HA.out (at_of hlt), len_of]; exact hk)
          have HF : Hid (PMoney.rstep t.size j m t[j] = none → PMoney.parse s.data.toList = none) := Lib.hid (fun hk => by
            apply PMoney.parse_none_of
            rw [← R1.out]
            exact PMoney.racc_none' (j := j + 1) (by rw [PMoney.racc_next HA.out (at_of hlt), len_of]; exact hk) (by rw [len_of]; omega))
          by_cases h3 : j + 3 = t.size
          · have e3 : ((j : Int) == (t.size : Int) - 3) = true := by rw [beq_iff_eq]; omega
            by_cases h46 : t[j] = 46
            · have e46 := dot_bool h46
              have HY := Lib.hid (HN.out m (rstep_dot h3 h46))
              clear h46 h3
              go_wp2_with fail
              go_round
              case rel => exact ⟨j + 1, m, by omega, by go_num, rfl, hm, HY.out⟩
              case measure => simp [intOf]; omega
            · have e46 : (((t[j].toNat : Nat) : Int) != 46) = true := by
                rw [bne_iff_ne]; intro e; exact h46 (UInt8.toNat_inj.1 (show t[j].toNat = 46 by omega))
              have HY := Lib.hid (HF.out (rstep_dotno h3 h46))
              clear h46 h3
              go_wp2_with fail
              go_ret2
              exact refAns_none HY.out (Below.refl _ _)
          · have e3 : ((j : Int) == (t.size : Int) - 3) = false := by rw [beq_eq_false_iff_ne]; omega
            have h3' := h3
            clear h3
            by_cases hd : 48 ≤ t[j].toNat ∧ t[j].toNat ≤ 57
            · obtain ⟨hd1, hd2⟩ := hd
              by_cases hb : 10 * m + (t[j].toNat - 48) ≤ 9223372036854775807
              · have HY := Lib.hid (HN.out _ ((rstep_dig h3').trans (step_yes hd1 hd2 hb)))
                go_wp2_with fail
                go_round
                case rel => exact ⟨j + 1, 10 * m + (t[j].toNat - 48), by omega, by go_num, by congr 1; omega, hb, HY.out⟩
                case measure => simp [intOf]; omega
              · have HY := Lib.hid (HF.out ((rstep_dig h3').trans (step_no (by omega))))
                go_wp2_with fail
                go_ret2
                exact refAns_none HY.out (Below.refl _ _)
            · have HY := Lib.hid (HF.out ((rstep_dig h3').trans (step_no (by omega))))
              by_cases hd1 : t[j].toNat < 48
              all_goals
                go_wp2_with fail
                go_ret2
                exact refAns_none HY.out (Below.refl _ _)
        · obtain rfl : j = t.size := by omega
          have HW : Hid (PMoney.racc (PMoney.bare s.data.toList) (PMoney.bare s.data.toList).length = some m) := Lib.hid (by rw [← R1.out, len_of]; exact HA.out)
          have HL : Hid ((PMoney.bare s.data.toList).length = t.size) := Lib.hid (by rw [← R1.out, len_of])
          by_cases h4 : t.size < 4
          · have HY := Lib.hid (PMoney.parse_none_short (l := s.data.toList) (by rw [HL.out]; exact h4))
            cases b
            all_goals
              go_wp2_with fail
              go_ret2
              exact refAns_none HY.out (Below.refl _ _)
          · rcases R2.out with ⟨rfl, -, -, hh⟩ | ⟨rfl, -, hh⟩
            · obtain ⟨u, hu⟩ : ∃ u : ByteArray, u = ⟨(PMoney.text (-(m : Int))).toArray⟩ := ⟨_, rfl⟩
              have HU := Lib.hid hu
              by_cases htx : PMoney.text (-(m : Int)) = s.data.toList
              · have hq := bytes_eq hu htx
                have HY := Lib.hid (PMoney.parse_yes HW.out (by rw [HL.out]; omega) (n := -(m : Int)) (by omega) hm htx)
                clear hh htx hu
                go_wp2_with fail
                refine (reftext_as _ _ (by omega) (by omega) u HU.out).mono ?_
                rintro _ w1 ⟨rfl, hb1⟩
                go_wp2_with fail
                go_ret2
                exact refAns_some HY.out hb1
              · have hq := bytes_ne hu htx
                have HY := Lib.hid (PMoney.parse_no HW.out (by rw [HL.out]; omega) (n := -(m : Int)) (by rw [if_pos hh]) htx)
                clear hh htx hu
                go_wp2_with fail
                refine (reftext_as _ _ (by omega) (by omega) u HU.out).mono ?_
                rintro _ w1 ⟨rfl, hb1⟩
                go_wp2_with fail
                go_ret2
                exact refAns_none HY.out hb1
            · obtain ⟨u, hu⟩ : ∃ u : ByteArray, u = ⟨(PMoney.text ((m : Int))).toArray⟩ := ⟨_, rfl⟩
              have HU := Lib.hid hu
              by_cases htx : PMoney.text ((m : Int)) = s.data.toList
              · have hq := bytes_eq hu htx
                have HY := Lib.hid (PMoney.parse_yes HW.out (by rw [HL.out]; omega) (n := (m : Int)) (by omega) hm htx)
                clear hh htx hu
                go_wp2_with fail
                refine (reftext_as _ _ (by omega) (by omega) u HU.out).mono ?_
                rintro _ w1 ⟨rfl, hb1⟩
                go_wp2_with fail
                go_ret2
                exact refAns_some HY.out hb1
              · have hq := bytes_ne hu htx
                have HY := Lib.hid (PMoney.parse_no HW.out (by rw [HL.out]; omega) (n := (m : Int)) (by rw [if_neg hh]) htx)
                clear hh htx hu
                go_wp2_with fail
                refine (reftext_as _ _ (by omega) (by omega) u HU.out).mono ?_
                rintro _ w1 ⟨rfl, hb1⟩
                go_wp2_with fail
                go_ret2
                exact refAns_none HY.out hb1
end Go.Proofs.YtdkcdgjpcojdfaaGreatDoor

namespace Go.Proofs.YtdkcdgjpcojdfaaGreatDoor
open Go.RowKit


set_option maxHeartbeats 800000 in
theorem reftext3 (n : Int) (w : World) (h0 : 0 ≤ n) (h1 : n ≤ 10000) (u : ByteArray) (hu : u = ⟨(PRate.text n).toArray⟩) :
    Calls Tryz.prog 97 #[.int .i64 n] w fun e w' => e = .returned (.string u) ∧ Below w.heap.size w w' := by
  obtain ⟨t, htt⟩ : ∃ t : ByteArray, t = ⟨(PMoney.text n).toArray⟩ := ⟨_, rfl⟩
  have T := Lib.hid (reftext_any n w (by omega) (by omega))
  rw [← htt] at T
  have HU : Hid (t ++ ⟨#[37]⟩ = u) := Lib.hid (by rw [hu, htt]; exact ByteArray.mk_append_mk _ [37])
  have hts : t.size ≤ 100 := by
    have h2 := PRate.text_len n h0 h1
    unfold PRate.text at h2
    rw [List.length_append] at h2
    rw [htt]; show (PMoney.text n).toArray.size ≤ 100
    simp at h2 ⊢; omega
  clear htt hu
  go_enter Tryz.func97, Tryz.ntmps97
  go_wp2_with fail
  refine T.out.mono ?_
  rintro _ w1 ⟨rfl, b1⟩
  go_wp2_with fail
  go_ret
  exact ⟨by rw [← HU.out]; rfl, b1⟩

set_option maxHeartbeats 1600000 in
theorem refparse3 (s : ByteArray) (w : World) (hs : s.size ≤ 9223372036854775807) :
    Calls Tryz.prog 70 #[.string s] w fun e w' => e = .returned (rparseV s.data.toList) ∧ Below w.heap.size w w' := by
  go_enter Tryz.func70, Tryz.ntmps70
  go_wp2_with fail
  go_loopw [4] (fun i wr => ∃ k : Nat, k ≤ 10001 ∧ i = .int .i64 k ∧ (∀ j : Nat, j < k → PRate.text j ≠ s.data.toList) ∧ Below w.heap.size w wr) (fun i _ => (10001 - intOf i).toNat)
  case atStart => exact ⟨0, by omega, rfl, fun j hj => by omega, Below.refl _ _⟩
  case round =>
    obtain ⟨k, hk, rfl, hno, hb⟩ := hrel
    obtain ⟨x, hx⟩ : ∃ x : Int, (k : Int) = x := ⟨_, rfl⟩
    have x0 : 0 ≤ x := by omega
    rw [hx]
    have HX := Lib.hid hx; have HNO := Lib.hid hno; have HB := Lib.hid hb
    clear hx hno hb
    by_cases hend : 10000 < x
    · have HN : Hid (rparseV s.data.toList = .tuple #[.int .i64 0, .bool false]) := Lib.hid (by
        apply rparseV_none
        rcases h : PRate.parse s.data.toList with _ | n
        · rfl
        · obtain ⟨a1, a2, a3⟩ := (PRate.parse_iff _ _).1 h
          have := HNO.out n.toNat (by have := HX.out; omega)
          rw [Int.toNat_of_nonneg a1] at this
          exact absurd a3 this)
      go_wp2_with fail
      go_ret2
      exact ⟨by rw [HN.out]; rfl, HB.out⟩
    · have x1 : x ≤ 10000 := by omega
      clear hend
      have hl := PRate.text_len x x0 x1
      by_cases h9 : s.size < 9
      · obtain ⟨u, hu⟩ : ∃ u : ByteArray, u = ⟨(PRate.text x).toArray⟩ := ⟨_, rfl⟩
        have T := Lib.hid (fun w => reftext3 x w x0 x1 u hu)
        by_cases he : PRate.text x = s.data.toList
        · have hb1 := bytes_eq hu he
          have HN := Lib.hid (rparseV_some ((PRate.parse_iff _ _).2 ⟨x0, x1, he⟩))
          clear hu he hl
          go_wp2_with fail
          refine (T.out _).mono ?_
          rintro _ w1 ⟨rfl, b1⟩
          go_wp2_with fail
          go_ret2
          exact ⟨by rw [HN.out]; rfl, below_step HB.out b1⟩
        · have hb1 := bytes_ne hu he
          have HE := Lib.hid he
          clear hu he hl
          go_wp2_with fail
          refine (T.out _).mono ?_
          rintro _ w1 ⟨rfl, b1⟩
          go_wp2_with fail
          refine ⟨⟨k + 1, by have := HX.out; omega, by rw [← HX.out]; rfl, fun j hj => ?_, below_step HB.out b1⟩, by simp only [intOf]; have := HX.out; omega⟩
          by_cases hjk : j = k
          · subst hjk; rw [HX.out]; exact HE.out
          · exact HNO.out j (by omega)
      · have HE : Hid (PRate.text x ≠ s.data.toList) := Lib.hid (fun h => by
          have := congrArg List.length h
          rw [len_of] at this
          omega)
        clear hl
        have h9' : (9 : Int) ≤ (s.size : Int) := by omega
        go_wp2_with fail
        refine ⟨⟨k + 1, by have := HX.out; omega, by rw [← HX.out]; rfl, fun j hj => ?_, HB.out⟩, by simp only [intOf]; have := HX.out; omega⟩
        by_cases hjk : j = k
        · subst hjk; rw [HX.out]; exact HE.out
        · exact HNO.out j (by omega)
end Go.Proofs.YtdkcdgjpcojdfaaGreatDoor
