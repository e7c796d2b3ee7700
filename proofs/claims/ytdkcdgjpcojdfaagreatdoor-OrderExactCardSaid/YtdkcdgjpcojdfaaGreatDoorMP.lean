/-
  What money.Parse answers: the amount of a text, or that there is none.
  What rate.Parse answers: the rate of a text, or that there is none.
-/
import Derived.Test.YtdkcdgjpcojdfaaGreatDoorBase
import Derived.Test.YtdkcdgjpcojdfaaGreatDoorPM
import Derived.Test.YtdkcdgjpcojdfaaGreatDoorShelf
import Derived.WalkKit
import Derived.Lib.Hide
import Derived.Test.YtdkcdgjpcojdfaaGreatDoorRR

namespace Go.Proofs.YtdkcdgjpcojdfaaGreatDoor
open Go.RowKit

def appV (n : Nat) (l : List UInt8) : Value := match PMoney.appN n l with
  | some k => .tuple #[.int .i64 k, .bool true]
  | none => .tuple #[.int .i64 0, .bool false]
theorem appV_some {n k : Nat} {l : List UInt8} (h : PMoney.appN n l = some k) : appV n l = .tuple #[.int .i64 k, .bool true] := by unfold appV; rw [h]
theorem appV_none {n : Nat} {l : List UInt8} (h : PMoney.appN n l = none) : appV n l = .tuple #[.int .i64 0, .bool false] := by unfold appV; rw [h]
theorem take_snoc (s : ByteArray) (k : Nat) (h : k < s.size) : s.data.toList.take (k + 1) = s.data.toList.take k ++ [s[k]] := by
  rw [List.take_succ_eq_append_getElem (by simpa using h)]; rfl
theorem appN_fail {n m j : Nat} {s : ByteArray} (h : j < s.size) (h1 : PMoney.appN n (s.data.toList.take j) = some m) (h2 : PMoney.stepN m s[j] = none) : PMoney.appN n s.data.toList = none := by
  have e : s.data.toList = s.data.toList.take j ++ s[j] :: s.data.toList.drop (j + 1) := by
    conv => lhs; rw [← List.take_append_drop (j + 1) s.data.toList, take_snoc s j h]
    simp
  rw [e, PMoney.appN_append, h1, Option.bind_some]
  simp [PMoney.appN, h2]
theorem appN_next {n m k j : Nat} {s : ByteArray} (h : j < s.size) (h1 : PMoney.appN n (s.data.toList.take j) = some m) (h2 : PMoney.stepN m s[j] = some k) : PMoney.appN n (s.data.toList.take (j + 1)) = some k := by
  rw [take_snoc s j h, PMoney.appN_snoc, h1, Option.bind_some, h2]

theorem ret_val {a b : Value} (h : a = b) : Ending.returned a = .returned b := by rw [h]
theorem step_yes {m : Nat} {c : UInt8} (h1 : 48 ≤ c.toNat) (h2 : c.toNat ≤ 57) (h3 : 10 * m + (c.toNat - 48) ≤ 9223372036854775807) : PMoney.stepN m c = some (10 * m + (c.toNat - 48)) := by
  unfold PMoney.stepN PMoney.MM; rw [if_pos ⟨h1, h2, h3⟩]
theorem step_no {m : Nat} {c : UInt8} (h : ¬ (48 ≤ c.toNat ∧ c.toNat ≤ 57 ∧ 10 * m + (c.toNat - 48) ≤ 9223372036854775807)) : PMoney.stepN m c = none := by
  unfold PMoney.stepN PMoney.MM; rw [if_neg h]

set_option maxHeartbeats 800000 in
theorem append_nat (n : Nat) (s : ByteArray) (w : World) (hn : n ≤ 9223372036854775807) (hs : s.size ≤ 9223372036854775807) :
    Calls Tryz.prog 101 #[.int .i64 n, .string s] w fun e w' => e = .returned (appV n s.data.toList) ∧ w = w' := by
  go_enter Tryz.func101, Tryz.ntmps101
  go_wp2
  go_loop [0, 11] (fun a i => ∃ (j m : Nat), j ≤ s.size ∧ i = .int .i64 j ∧ a = .int .i64 m ∧ m ≤ 9223372036854775807 ∧ PMoney.appN n (s.data.toList.take j) = some m) (fun _ i => s.size - (intOf i).toNat)
  case atStart => exact ⟨0, n, Nat.zero_le _, rfl, rfl, hn, rfl⟩
  case round =>
    obtain ⟨j, m, hj, rfl, rfl, hm, hap⟩ := hrel
    have HA := Lib.hid hap; clear hap
    by_cases hlt : j < s.size
    · have hc : s[j].toNat < 256 := s[j].toNat_lt
      by_cases hd : 48 ≤ s[j].toNat ∧ s[j].toNat ≤ 57
      · obtain ⟨hd1, hd2⟩ := hd
        by_cases hb : 10 * m + (s[j].toNat - 48) ≤ 9223372036854775807
        · go_wp2
          go_round
          case rel => exact ⟨j + 1, 10 * m + (s[j].toNat - 48), by omega, by go_num, by congr 1; omega, hb, appN_next hlt HA.out (step_yes hd1 hd2 hb)⟩
          case measure => simp [intOf]; omega
        · have HS := Lib.hid (appV_none (appN_fail hlt HA.out (step_no (m := m) (by omega))))
          go_wp2
          go_ret2
          exact ⟨ret_val (by rw [HS.out]; rfl), rfl⟩
      · have HS := Lib.hid (appV_none (appN_fail hlt HA.out (step_no (m := m) (by omega))))
        by_cases hd1 : s[j].toNat < 48
        all_goals
          go_wp2
          go_ret2
          exact ⟨ret_val (by rw [HS.out]; rfl), rfl⟩
    · obtain rfl : j = s.size := by omega
      have HS : Hid (appV n s.data.toList = .tuple #[.int .i64 m, .bool true]) := appV_some (by have := HA.out; rwa [List.take_of_length_le (by simp)] at this)
      go_wp2
      go_ret2
      exact ⟨ret_val (by rw [HS.out]; rfl), rfl⟩

theorem append_zero (s : ByteArray) (w : World) (hs : s.size ≤ 9223372036854775807) :
    Calls Tryz.prog 101 #[.int .i64 0, .string s] w fun e w' => e = .returned (appV 0 s.data.toList) ∧ w = w' := append_nat 0 s w (by omega) hs

def coreV (b : Bool) (l : List UInt8) : Value := match PMoney.sizeOf l with
  | none => .tuple #[.int .i64 0, .bool false]
  | some u => if b = true then (if u = 0 then .tuple #[.int .i64 0, .bool false] else .tuple #[.int .i64 (-(u : Int)), .bool true]) else .tuple #[.int .i64 u, .bool true]
theorem coreV_none {b : Bool} {l : List UInt8} (h : PMoney.sizeOf l = none) : coreV b l = .tuple #[.int .i64 0, .bool false] := by unfold coreV; rw [h]
theorem coreV_pos {l : List UInt8} {u : Nat} (h : PMoney.sizeOf l = some u) : coreV false l = .tuple #[.int .i64 u, .bool true] := by unfold coreV; rw [h]; rfl
theorem coreV_nought {l : List UInt8} (h : PMoney.sizeOf l = some 0) : coreV true l = .tuple #[.int .i64 0, .bool false] := by unfold coreV; rw [h]; rfl
theorem coreV_neg {l : List UInt8} {u : Nat} (h : PMoney.sizeOf l = some u) (hu : u ≠ 0) : coreV true l = .tuple #[.int .i64 (-(u : Int)), .bool true] := by
  unfold coreV; rw [h]; simp [hu]

theorem at_of {t : ByteArray} {i : Nat} (h : i < t.size) : t.data.toList[i]? = some t[i] := by
  rw [List.getElem?_eq_getElem (by simpa using h)]; rfl
theorem sz1 {t : ByteArray} (h : t.size < 4) : PMoney.sizeOf t.data.toList = none := by
  unfold PMoney.sizeOf; rw [if_neg]; rintro ⟨h1, _⟩; simp at h1; omega
theorem len_of (t : ByteArray) : t.data.toList.length = t.size := by simp
theorem sz2 {t : ByteArray} (h : 4 ≤ t.size) (hd : t[t.size - 3] ≠ 46) : PMoney.sizeOf t.data.toList = none := by
  unfold PMoney.sizeOf; rw [if_neg]; rintro ⟨_, h1, _⟩
  rw [len_of, at_of (by omega)] at h1
  exact hd (by injection h1)
theorem sz3 {t : ByteArray} (h : 4 < t.size) (hd : t[0] = 48) : PMoney.sizeOf t.data.toList = none := by
  unfold PMoney.sizeOf; rw [if_neg]; rintro ⟨_, _, h1⟩
  apply h1
  rw [len_of, List.head?_eq_getElem?, at_of (by omega), hd]
  exact ⟨h, rfl⟩
theorem extract_list (t : ByteArray) (a b : Nat) : (t.extract a b).data.toList = (t.data.toList.take b).drop a := by
  rw [ByteArray.data_extract, Array.toList_extract, List.extract_eq_take_drop, List.drop_take]
theorem sz4 {t : ByteArray} (h : 4 ≤ t.size) (hd : t[t.size - 3] = 46) (hz : ¬ (4 < t.size ∧ t[0] = 48)) :
    PMoney.sizeOf t.data.toList = (PMoney.appN 0 (t.extract 0 (t.size - 3)).data.toList).bind fun k => PMoney.appN k (t.extract (t.size - 3 + 1) t.size).data.toList := by
  unfold PMoney.sizeOf
  rw [if_pos]
  · rw [show t.size - 3 + 1 = t.size - 2 by omega, extract_list, extract_list, len_of, List.drop_zero, List.take_of_length_le (Nat.le_of_eq (len_of t))]
  · rw [len_of, at_of (by omega), hd]
    refine ⟨h, rfl, fun hc => hz ⟨hc.1, ?_⟩⟩
    have h2 := hc.2
    rw [List.head?_eq_getElem?, at_of (by omega)] at h2
    injection h2

set_option maxHeartbeats 800000 in
theorem core1 (b : Bool) (s t : ByteArray) (w : World) (h4 : t.size < 4)
    (hcut : ∀ w, Calls Tryz.prog 100 #[.string s, .string ⟨#[45]⟩] w fun e w' => e = .returned (.tuple #[.string t, .bool b]) ∧ w = w') :
    Calls Tryz.prog 77 #[.string s] w fun e w' => e = .returned (coreV b t.data.toList) ∧ w = w' := by
  have HC := Lib.hid hcut; clear hcut
  have HR := Lib.hid (coreV_none (b := b) (sz1 h4))
  go_enter Tryz.func77, Tryz.ntmps77
  go_wp2_with fail
  refine (HC.out _).mono ?_
  rintro e w' ⟨rfl, rfl⟩
  go_wp2
  go_ret2
  exact ⟨ret_val (by rw [HR.out]; rfl), rfl⟩
set_option maxHeartbeats 800000 in
theorem core2 (b : Bool) (s t : ByteArray) (w : World) (hs : t.size ≤ 9223372036854775807) (h4 : 4 ≤ t.size) (hd : t[t.size - 3] ≠ 46)
    (hcut : ∀ w, Calls Tryz.prog 100 #[.string s, .string ⟨#[45]⟩] w fun e w' => e = .returned (.tuple #[.string t, .bool b]) ∧ w = w') :
    Calls Tryz.prog 77 #[.string s] w fun e w' => e = .returned (coreV b t.data.toList) ∧ w = w' := by
  have HC := Lib.hid hcut; clear hcut
  have HR := Lib.hid (coreV_none (b := b) (sz2 h4 hd))
  have hd' : (((t[t.size - 3].toNat : Nat) : Int) != 46) = true := by
    rw [bne_iff_ne]; intro e; exact hd (UInt8.toNat_inj.1 (show t[t.size - 3].toNat = 46 by omega))
  clear hd
  go_enter Tryz.func77, Tryz.ntmps77
  go_wp2_with fail
  refine (HC.out _).mono ?_
  rintro e w' ⟨rfl, rfl⟩
  go_wp2
  go_ret2
  exact ⟨ret_val (by rw [HR.out]; rfl), rfl⟩
theorem dot_bool {c : UInt8} (h : c = 46) : (((c.toNat : Nat) : Int) != 46) = false := by subst h; rfl
theorem nought_bool {c : UInt8} (h : c ≠ 48) : (((c.toNat : Nat) : Int) == 48) = false := by
  rw [beq_eq_false_iff_ne]; intro e; exact h (UInt8.toNat_inj.1 (show c.toNat = 48 by omega))
theorem nought_bool' {c : UInt8} (h : c = 48) : (((c.toNat : Nat) : Int) == 48) = true := by subst h; rfl
set_option maxHeartbeats 800000 in
theorem core3 (b : Bool) (s t : ByteArray) (w : World) (hs : t.size ≤ 9223372036854775807) (h4 : 4 < t.size) (hd : t[t.size - 3] = 46) (hz : t[0] = 48)
    (hcut : ∀ w, Calls Tryz.prog 100 #[.string s, .string ⟨#[45]⟩] w fun e w' => e = .returned (.tuple #[.string t, .bool b]) ∧ w = w') :
    Calls Tryz.prog 77 #[.string s] w fun e w' => e = .returned (coreV b t.data.toList) ∧ w = w' := by
  have HC := Lib.hid hcut; clear hcut
  have HR := Lib.hid (coreV_none (b := b) (sz3 h4 hz))
  have hd' := dot_bool hd
  have hz' := nought_bool' hz
  clear hd hz
  go_enter Tryz.func77, Tryz.ntmps77
  go_wp2_with fail
  refine (HC.out _).mono ?_
  rintro e w' ⟨rfl, rfl⟩
  go_wp2
  go_ret2
  exact ⟨ret_val (by rw [HR.out]; rfl), rfl⟩
theorem app_le : ∀ {l : List UInt8} {n v : Nat}, n ≤ PMoney.MM → PMoney.appN n l = some v → v ≤ 9223372036854775807
  | [], n, v, hn, h => by cases h; exact hn
  | c :: r, n, v, _, h => by
    obtain ⟨k, hk, h⟩ := Option.bind_eq_some_iff.1 h
    exact app_le (PMoney.stepN_some hk).2.2.2 h
set_option maxHeartbeats 800000 in
theorem core4L (b : Bool) (s t : ByteArray) (w : World) (hs : t.size ≤ 9223372036854775807) (h4 : 4 < t.size) (hd : t[t.size - 3]'(by omega) = 46) (hz : t[0] ≠ 48) (hv : PMoney.appN 0 (t.extract 0 (t.size - 3)).data.toList = none)
    (hcut : ∀ w, Calls Tryz.prog 100 #[.string s, .string ⟨#[45]⟩] w fun e w' => e = .returned (.tuple #[.string t, .bool b]) ∧ w = w') :
    Calls Tryz.prog 77 #[.string s] w fun e w' => e = .returned (coreV b t.data.toList) ∧ w = w' := by
  have HC := Lib.hid hcut; clear hcut
  have HV := Lib.hid (appV_none hv)
  have HR := Lib.hid (coreV_none (b := b) (by rw [(sz4 (by omega) hd (fun hc => hz hc.2)), hv]; rfl))
  clear hv
  have hd' := dot_bool hd
  have hz' := nought_bool hz
  clear hd hz
  go_enter Tryz.func77, Tryz.ntmps77
  go_wp2_with fail
  refine (HC.out _).mono ?_
  rintro e w' ⟨rfl, rfl⟩
  go_wp2_with fail
  refine (append_zero _ _ (by simp; omega)).mono ?_
  rintro e w' ⟨rfl, rfl⟩
  rw [HV.out]
  go_wp2
  go_ret2
  exact ⟨ret_val (by rw [HR.out]; rfl), rfl⟩
set_option maxHeartbeats 800000 in
theorem core4S (b : Bool) (s t : ByteArray) (w : World) (hs : t.size ≤ 9223372036854775807) (h4 : 4 ≤ t.size) (h4b : t.size ≤ 4) (hd : t[t.size - 3]'(by omega) = 46) (hv : PMoney.appN 0 (t.extract 0 (t.size - 3)).data.toList = none)
    (hcut : ∀ w, Calls Tryz.prog 100 #[.string s, .string ⟨#[45]⟩] w fun e w' => e = .returned (.tuple #[.string t, .bool b]) ∧ w = w') :
    Calls Tryz.prog 77 #[.string s] w fun e w' => e = .returned (coreV b t.data.toList) ∧ w = w' := by
  have HC := Lib.hid hcut; clear hcut
  have HV := Lib.hid (appV_none hv)
  have HR := Lib.hid (coreV_none (b := b) (by rw [(sz4 (by omega) hd (fun hc => by omega)), hv]; rfl))
  clear hv
  have hd' := dot_bool hd
  clear hd
  go_enter Tryz.func77, Tryz.ntmps77
  go_wp2_with fail
  refine (HC.out _).mono ?_
  rintro e w' ⟨rfl, rfl⟩
  go_wp2_with fail
  refine (append_zero _ _ (by simp; omega)).mono ?_
  rintro e w' ⟨rfl, rfl⟩
  rw [HV.out]
  go_wp2
  go_ret2
  exact ⟨ret_val (by rw [HR.out]; rfl), rfl⟩
set_option maxHeartbeats 800000 in
theorem core5L (b : Bool) (s t : ByteArray) (w : World) (hs : t.size ≤ 9223372036854775807) (h4 : 4 < t.size) (hd : t[t.size - 3]'(by omega) = 46) (hz : t[0] ≠ 48) {v : Nat} (hv : PMoney.appN 0 (t.extract 0 (t.size - 3)).data.toList = some v) (hu : PMoney.appN v (t.extract (t.size - 3 + 1) t.size).data.toList = none)
    (hcut : ∀ w, Calls Tryz.prog 100 #[.string s, .string ⟨#[45]⟩] w fun e w' => e = .returned (.tuple #[.string t, .bool b]) ∧ w = w') :
    Calls Tryz.prog 77 #[.string s] w fun e w' => e = .returned (coreV b t.data.toList) ∧ w = w' := by
  have HC := Lib.hid hcut; clear hcut
  have HV := Lib.hid (appV_some hv)
  have HU := Lib.hid (appV_none hu)
  have hvb := app_le (by unfold PMoney.MM; omega) hv
  have HR := Lib.hid (coreV_none (b := b) (by rw [(sz4 (by omega) hd (fun hc => hz hc.2)), hv]; exact hu))
  clear hv hu
  have hd' := dot_bool hd
  have hz' := nought_bool hz
  clear hd hz
  go_enter Tryz.func77, Tryz.ntmps77
  go_wp2_with fail
  refine (HC.out _).mono ?_
  rintro e w' ⟨rfl, rfl⟩
  go_wp2_with fail
  refine (append_zero _ _ (by simp; omega)).mono ?_
  rintro e w' ⟨rfl, rfl⟩
  rw [HV.out]
  go_wp2_with fail
  refine (append_nat v _ _ hvb (by simp; omega)).mono ?_
  rintro e w' ⟨rfl, rfl⟩
  rw [HU.out]
  go_wp2
  go_ret2
  exact ⟨ret_val (by rw [HR.out]; rfl), rfl⟩
set_option maxHeartbeats 800000 in
theorem core5S (b : Bool) (s t : ByteArray) (w : World) (hs : t.size ≤ 9223372036854775807) (h4 : 4 ≤ t.size) (h4b : t.size ≤ 4) (hd : t[t.size - 3]'(by omega) = 46) {v : Nat} (hv : PMoney.appN 0 (t.extract 0 (t.size - 3)).data.toList = some v) (hu : PMoney.appN v (t.extract (t.size - 3 + 1) t.size).data.toList = none)
    (hcut : ∀ w, Calls Tryz.prog 100 #[.string s, .string ⟨#[45]⟩] w fun e w' => e = .returned (.tuple #[.string t, .bool b]) ∧ w = w') :
    Calls Tryz.prog 77 #[.string s] w fun e w' => e = .returned (coreV b t.data.toList) ∧ w = w' := by
  have HC := Lib.hid hcut; clear hcut
  have HV := Lib.hid (appV_some hv)
  have HU := Lib.hid (appV_none hu)
  have hvb := app_le (by unfold PMoney.MM; omega) hv
  have HR := Lib.hid (coreV_none (b := b) (by rw [(sz4 (by omega) hd (fun hc => by omega)), hv]; exact hu))
  clear hv hu
  have hd' := dot_bool hd
  clear hd
  go_enter Tryz.func77, Tryz.ntmps77
  go_wp2_with fail
  refine (HC.out _).mono ?_
  rintro e w' ⟨rfl, rfl⟩
  go_wp2_with fail
  refine (append_zero _ _ (by simp; omega)).mono ?_
  rintro e w' ⟨rfl, rfl⟩
  rw [HV.out]
  go_wp2_with fail
  refine (append_nat v _ _ hvb (by simp; omega)).mono ?_
  rintro e w' ⟨rfl, rfl⟩
  rw [HU.out]
  go_wp2
  go_ret2
  exact ⟨ret_val (by rw [HR.out]; rfl), rfl⟩
set_option maxHeartbeats 800000 in
theorem core6L (s t : ByteArray) (w : World) (hs : t.size ≤ 9223372036854775807) (h4 : 4 < t.size) (hd : t[t.size - 3]'(by omega) = 46) (hz : t[0] ≠ 48) {v u : Nat} (hv : PMoney.appN 0 (t.extract 0 (t.size - 3)).data.toList = some v) (hu : PMoney.appN v (t.extract (t.size - 3 + 1) t.size).data.toList = some u) 
    (hcut : ∀ w, Calls Tryz.prog 100 #[.string s, .string ⟨#[45]⟩] w fun e w' => e = .returned (.tuple #[.string t, .bool false]) ∧ w = w') :
    Calls Tryz.prog 77 #[.string s] w fun e w' => e = .returned (coreV false t.data.toList) ∧ w = w' := by
  have HC := Lib.hid hcut; clear hcut
  have HV := Lib.hid (appV_some hv)
  have HU := Lib.hid (appV_some hu)
  have hvb := app_le (by unfold PMoney.MM; omega) hv
  have hub := app_le hvb hu
  have hsz : PMoney.sizeOf t.data.toList = some u := by rw [(sz4 (by omega) hd (fun hc => hz hc.2)), hv]; exact hu
  have HR := Lib.hid (coreV_pos hsz)
  clear hv hu hsz
  have hd' := dot_bool hd
  have hz' := nought_bool hz
  clear hd hz
  go_enter Tryz.func77, Tryz.ntmps77
  go_wp2_with fail
  refine (HC.out _).mono ?_
  rintro e w' ⟨rfl, rfl⟩
  go_wp2_with fail
  refine (append_zero _ _ (by simp; omega)).mono ?_
  rintro e w' ⟨rfl, rfl⟩
  rw [HV.out]
  go_wp2_with fail
  refine (append_nat v _ _ hvb (by simp; omega)).mono ?_
  rintro e w' ⟨rfl, rfl⟩
  rw [HU.out]
  go_wp2
  go_ret2
  exact ⟨ret_val (by rw [HR.out]; rfl), rfl⟩
set_option maxHeartbeats 800000 in
theorem core6S (s t : ByteArray) (w : World) (hs : t.size ≤ 9223372036854775807) (h4 : 4 ≤ t.size) (h4b : t.size ≤ 4) (hd : t[t.size - 3]'(by omega) = 46) {v u : Nat} (hv : PMoney.appN 0 (t.extract 0 (t.size - 3)).data.toList = some v) (hu : PMoney.appN v (t.extract (t.size - 3 + 1) t.size).data.toList = some u) 
    (hcut : ∀ w, Calls Tryz.prog 100 #[.string s, .string ⟨#[45]⟩] w fun e w' => e = .returned (.tuple #[.string t, .bool false]) ∧ w = w') :
    Calls Tryz.prog 77 #[.string s] w fun e w' => e = .returned (coreV false t.data.toList) ∧ w = w' := by
  have HC := Lib.hid hcut; clear hcut
  have HV := Lib.hid (appV_some hv)
  have HU := Lib.hid (appV_some hu)
  have hvb := app_le (by unfold PMoney.MM; omega) hv
  have hub := app_le hvb hu
  have hsz : PMoney.sizeOf t.data.toList = some u := by rw [(sz4 (by omega) hd (fun hc => by omega)), hv]; exact hu
  have HR := Lib.hid (coreV_pos hsz)
  clear hv hu hsz
  have hd' := dot_bool hd
  clear hd
  go_enter Tryz.func77, Tryz.ntmps77
  go_wp2_with fail
  refine (HC.out _).mono ?_
  rintro e w' ⟨rfl, rfl⟩
  go_wp2_with fail
  refine (append_zero _ _ (by simp; omega)).mono ?_
  rintro e w' ⟨rfl, rfl⟩
  rw [HV.out]
  go_wp2_with fail
  refine (append_nat v _ _ hvb (by simp; omega)).mono ?_
  rintro e w' ⟨rfl, rfl⟩
  rw [HU.out]
  go_wp2
  go_ret2
  exact ⟨ret_val (by rw [HR.out]; rfl), rfl⟩
set_option maxHeartbeats 800000 in
theorem core7L (s t : ByteArray) (w : World) (hs : t.size ≤ 9223372036854775807) (h4 : 4 < t.size) (hd : t[t.size - 3]'(by omega) = 46) (hz : t[0] ≠ 48) {v : Nat} (hv : PMoney.appN 0 (t.extract 0 (t.size - 3)).data.toList = some v) (hu : PMoney.appN v (t.extract (t.size - 3 + 1) t.size).data.toList = some 0) 
    (hcut : ∀ w, Calls Tryz.prog 100 #[.string s, .string ⟨#[45]⟩] w fun e w' => e = .returned (.tuple #[.string t, .bool true]) ∧ w = w') :
    Calls Tryz.prog 77 #[.string s] w fun e w' => e = .returned (coreV true t.data.toList) ∧ w = w' := by
  have HC := Lib.hid hcut; clear hcut
  have HV := Lib.hid (appV_some hv)
  have HU := Lib.hid (appV_some hu)
  have hvb := app_le (by unfold PMoney.MM; omega) hv
  have hub := app_le hvb hu
  have hsz : PMoney.sizeOf t.data.toList = some 0 := by rw [(sz4 (by omega) hd (fun hc => hz hc.2)), hv]; exact hu
  have HR := Lib.hid (coreV_nought hsz)
  clear hv hu hsz
  have hd' := dot_bool hd
  have hz' := nought_bool hz
  clear hd hz
  go_enter Tryz.func77, Tryz.ntmps77
  go_wp2_with fail
  refine (HC.out _).mono ?_
  rintro e w' ⟨rfl, rfl⟩
  go_wp2_with fail
  refine (append_zero _ _ (by simp; omega)).mono ?_
  rintro e w' ⟨rfl, rfl⟩
  rw [HV.out]
  go_wp2_with fail
  refine (append_nat v _ _ hvb (by simp; omega)).mono ?_
  rintro e w' ⟨rfl, rfl⟩
  rw [HU.out]
  go_wp2
  go_ret2
  exact ⟨ret_val (by rw [HR.out]; rfl), rfl⟩
set_option maxHeartbeats 800000 in
theorem core7S (s t : ByteArray) (w : World) (hs : t.size ≤ 9223372036854775807) (h4 : 4 ≤ t.size) (h4b : t.size ≤ 4) (hd : t[t.size - 3]'(by omega) = 46) {v : Nat} (hv : PMoney.appN 0 (t.extract 0 (t.size - 3)).data.toList = some v) (hu : PMoney.appN v (t.extract (t.size - 3 + 1) t.size).data.toList = some 0) 
    (hcut : ∀ w, Calls Tryz.prog 100 #[.string s, .string ⟨#[45]⟩] w fun e w' => e = .returned (.tuple #[.string t, .bool true]) ∧ w = w') :
    Calls Tryz.prog 77 #[.string s] w fun e w' => e = .returned (coreV true t.data.toList) ∧ w = w' := by
  have HC := Lib.hid hcut; clear hcut
  have HV := Lib.hid (appV_some hv)
  have HU := Lib.hid (appV_some hu)
  have hvb := app_le (by unfold PMoney.MM; omega) hv
  have hub := app_le hvb hu
  have hsz : PMoney.sizeOf t.data.toList = some 0 := by rw [(sz4 (by omega) hd (fun hc => by omega)), hv]; exact hu
  have HR := Lib.hid (coreV_nought hsz)
  clear hv hu hsz
  have hd' := dot_bool hd
  clear hd
  go_enter Tryz.func77, Tryz.ntmps77
  go_wp2_with fail
  refine (HC.out _).mono ?_
  rintro e w' ⟨rfl, rfl⟩
  go_wp2_with fail
  refine (append_zero _ _ (by simp; omega)).mono ?_
  rintro e w' ⟨rfl, rfl⟩
  rw [HV.out]
  go_wp2_with fail
  refine (append_nat v _ _ hvb (by simp; omega)).mono ?_
  rintro e w' ⟨rfl, rfl⟩
  rw [HU.out]
  go_wp2
  go_ret2
  exact ⟨ret_val (by rw [HR.out]; rfl), rfl⟩
set_option maxHeartbeats 800000 in
theorem core8L (s t : ByteArray) (w : World) (hs : t.size ≤ 9223372036854775807) (h4 : 4 < t.size) (hd : t[t.size - 3]'(by omega) = 46) (hz : t[0] ≠ 48) {v u : Nat} (hv : PMoney.appN 0 (t.extract 0 (t.size - 3)).data.toList = some v) (hu : PMoney.appN v (t.extract (t.size - 3 + 1) t.size).data.toList = some u) (hn : u ≠ 0)
    (hcut : ∀ w, Calls Tryz.prog 100 #[.string s, .string ⟨#[45]⟩] w fun e w' => e = .returned (.tuple #[.string t, .bool true]) ∧ w = w') :
    Calls Tryz.prog 77 #[.string s] w fun e w' => e = .returned (coreV true t.data.toList) ∧ w = w' := by
  have HC := Lib.hid hcut; clear hcut
  have HV := Lib.hid (appV_some hv)
  have HU := Lib.hid (appV_some hu)
  have hvb := app_le (by unfold PMoney.MM; omega) hv
  have hub := app_le hvb hu
  have hsz : PMoney.sizeOf t.data.toList = some u := by rw [(sz4 (by omega) hd (fun hc => hz hc.2)), hv]; exact hu
  have HR := Lib.hid (coreV_neg hsz hn)
  have hu' : (((u : Nat) : Int) == 0) = false := by rw [beq_eq_false_iff_ne]; omega
  clear hv hu hsz hn
  have hd' := dot_bool hd
  have hz' := nought_bool hz
  clear hd hz
  go_enter Tryz.func77, Tryz.ntmps77
  go_wp2_with fail
  refine (HC.out _).mono ?_
  rintro e w' ⟨rfl, rfl⟩
  go_wp2_with fail
  refine (append_zero _ _ (by simp; omega)).mono ?_
  rintro e w' ⟨rfl, rfl⟩
  rw [HV.out]
  go_wp2_with fail
  refine (append_nat v _ _ hvb (by simp; omega)).mono ?_
  rintro e w' ⟨rfl, rfl⟩
  rw [HU.out]
  go_wp2
  go_ret2
  exact ⟨ret_val (by rw [HR.out]; rfl), rfl⟩
set_option maxHeartbeats 800000 in
theorem core8S (s t : ByteArray) (w : World) (hs : t.size ≤ 9223372036854775807) (h4 : 4 ≤ t.size) (h4b : t.size ≤ 4) (hd : t[t.size - 3]'(by omega) = 46) {v u : Nat} (hv : PMoney.appN 0 (t.extract 0 (t.size - 3)).data.toList = some v) (hu : PMoney.appN v (t.extract (t.size - 3 + 1) t.size).data.toList = some u) (hn : u ≠ 0)
    (hcut : ∀ w, Calls Tryz.prog 100 #[.string s, .string ⟨#[45]⟩] w fun e w' => e = .returned (.tuple #[.string t, .bool true]) ∧ w = w') :
    Calls Tryz.prog 77 #[.string s] w fun e w' => e = .returned (coreV true t.data.toList) ∧ w = w' := by
  have HC := Lib.hid hcut; clear hcut
  have HV := Lib.hid (appV_some hv)
  have HU := Lib.hid (appV_some hu)
  have hvb := app_le (by unfold PMoney.MM; omega) hv
  have hub := app_le hvb hu
  have hsz : PMoney.sizeOf t.data.toList = some u := by rw [(sz4 (by omega) hd (fun hc => by omega)), hv]; exact hu
  have HR := Lib.hid (coreV_neg hsz hn)
  have hu' : (((u : Nat) : Int) == 0) = false := by rw [beq_eq_false_iff_ne]; omega
  clear hv hu hsz hn
  have hd' := dot_bool hd
  clear hd
  go_enter Tryz.func77, Tryz.ntmps77
  go_wp2_with fail
  refine (HC.out _).mono ?_
  rintro e w' ⟨rfl, rfl⟩
  go_wp2_with fail
  refine (append_zero _ _ (by simp; omega)).mono ?_
  rintro e w' ⟨rfl, rfl⟩
  rw [HV.out]
  go_wp2_with fail
  refine (append_nat v _ _ hvb (by simp; omega)).mono ?_
  rintro e w' ⟨rfl, rfl⟩
  rw [HU.out]
  go_wp2
  go_ret2
  exact ⟨ret_val (by rw [HR.out]; rfl), rfl⟩

theorem core_any (b : Bool) (s t : ByteArray) (w : World) (hs : t.size ≤ 9223372036854775807)
    (hcut : ∀ w, Calls Tryz.prog 100 #[.string s, .string ⟨#[45]⟩] w fun e w' => e = .returned (.tuple #[.string t, .bool b]) ∧ w = w') :
    Calls Tryz.prog 77 #[.string s] w fun e w' => e = .returned (coreV b t.data.toList) ∧ w = w' := by
  by_cases h4 : t.size < 4
  · exact core1 b s t w h4 hcut
  by_cases hd : t[t.size - 3] = 46
  · by_cases hl : 4 < t.size
    · by_cases hz : t[0] = 48
      · exact core3 b s t w hs hl hd hz hcut
      · rcases hv : PMoney.appN 0 (t.extract 0 (t.size - 3)).data.toList with _ | v
        · exact core4L b s t w hs hl hd hz hv hcut
        · rcases hu : PMoney.appN v (t.extract (t.size - 3 + 1) t.size).data.toList with _ | u
          · exact core5L b s t w hs hl hd hz hv hu hcut
          · cases b
            · exact core6L s t w hs hl hd hz hv hu hcut
            · by_cases h0 : u = 0
              · subst h0; exact core7L s t w hs hl hd hz hv hu hcut
              · exact core8L s t w hs hl hd hz hv hu h0 hcut
    · rcases hv : PMoney.appN 0 (t.extract 0 (t.size - 3)).data.toList with _ | v
      · exact core4S b s t w hs (by omega) (by omega) hd hv hcut
      · rcases hu : PMoney.appN v (t.extract (t.size - 3 + 1) t.size).data.toList with _ | u
        · exact core5S b s t w hs (by omega) (by omega) hd hv hu hcut
        · cases b
          · exact core6S s t w hs (by omega) (by omega) hd hv hu hcut
          · by_cases h0 : u = 0
            · subst h0; exact core7S s t w hs (by omega) (by omega) hd hv hu hcut
            · exact core8S s t w hs (by omega) (by omega) hd hv hu h0 hcut
  · exact core2 b s t w hs (by omega) hd hcut

def parseV (l : List UInt8) : Value := match PMoney.parse l with
  | some n => .tuple #[.int .i64 n, .bool true]
  | none => .tuple #[.int .i64 0, .bool false]
theorem parseV_some {l : List UInt8} {n : Int} (h : PMoney.parse l = some n) : parseV l = .tuple #[.int .i64 n, .bool true] := by unfold parseV; rw [h]
theorem parseV_none {l : List UInt8} (h : PMoney.parse l = none) : parseV l = .tuple #[.int .i64 0, .bool false] := by unfold parseV; rw [h]
theorem core_minus {l : List UInt8} (h : l.head? = some 45) : coreV true l.tail = parseV l := by
  unfold coreV parseV PMoney.parse PMoney.bare
  rw [if_pos h]
  rcases PMoney.sizeOf l.tail with _ | u
  · rfl
  · simp only [if_true, Option.bind_some, if_pos h]
    by_cases h0 : u = 0 <;> simp [h0]
theorem core_plus {l : List UInt8} (h : ¬ l.head? = some 45) : coreV false l = parseV l := by
  unfold coreV parseV PMoney.parse PMoney.bare
  rw [if_neg h]
  rcases PMoney.sizeOf l with _ | u
  · rfl
  · simp [h]

theorem parse_any (s : ByteArray) (w : World) (hs : s.size ≤ 9223372036854775807) :
    Calls Tryz.prog 77 #[.string s] w fun e w' => e = .returned (parseV s.data.toList) ∧ w = w' := by
  by_cases h : s.data.toList.head? = some 45
  · rw [← core_minus h]
    refine core_any true s ⟨s.data.toList.tail.toArray⟩ w (by show s.data.toList.tail.toArray.size ≤ _; simp; omega) fun w => ?_
    refine (Tryz.strings_CutPrefix s ⟨#[45]⟩ w).mono ?_
    rintro e w' ⟨rfl, rfl⟩
    have hp : Lib.hasPrefix s.data.toList [45] = true := by
      unfold Lib.hasPrefix
      cases hl : s.data.toList with
      | nil => rw [hl] at h; cases h
      | cons c r => rw [hl] at h; simp at h; subst h; rfl
    refine ⟨?_, rfl⟩
    show Ending.returned (.tuple #[.string ⟨(Lib.trimPrefix s.data.toList [45]).toArray⟩, .bool (Lib.hasPrefix s.data.toList [45])]) = _
    unfold Lib.trimPrefix
    rw [hp]; simp
  · rw [← core_plus h]
    refine core_any false s s w hs fun w => ?_
    refine (Tryz.strings_CutPrefix s ⟨#[45]⟩ w).mono ?_
    rintro e w' ⟨rfl, rfl⟩
    have hp : Lib.hasPrefix s.data.toList [45] = false := by
      unfold Lib.hasPrefix
      cases hl : s.data.toList with
      | nil => rfl
      | cons c r => rw [hl] at h; simp at h; simp [List.isPrefixOf]; exact fun e => h e.symm
    refine ⟨?_, rfl⟩
    show Ending.returned (.tuple #[.string ⟨(Lib.trimPrefix s.data.toList [45]).toArray⟩, .bool (Lib.hasPrefix s.data.toList [45])]) = _
    unfold Lib.trimPrefix
    rw [hp]; simp
end Go.Proofs.YtdkcdgjpcojdfaaGreatDoor

namespace Go.Proofs.YtdkcdgjpcojdfaaGreatDoor
open Go.RowKit

def rparseV (l : List UInt8) : Value := match PRate.parse l with
  | some n => .tuple #[.int .i64 n, .bool true]
  | none => .tuple #[.int .i64 0, .bool false]
theorem rparseV_some {l : List UInt8} {n : Int} (h : PRate.parse l = some n) : rparseV l = .tuple #[.int .i64 n, .bool true] := by unfold rparseV; rw [h]
theorem rparseV_none {l : List UInt8} (h : PRate.parse l = none) : rparseV l = .tuple #[.int .i64 0, .bool false] := by unfold rparseV; rw [h]

set_option maxHeartbeats 1600000 in
theorem rparse_any (s : ByteArray) (w : World) (hs : s.size ≤ 9223372036854775807) :
    Calls Tryz.prog 78 #[.string s] w fun e w' => e = .returned (rparseV s.data.toList) ∧ w = w' := by
  have C := Lib.hid (Tryz.strings_CutSuffix s ⟨#[37]⟩ w hs)
  by_cases h : Lib.hasSuffix s.data.toList [37] = true
  · obtain ⟨k, hk⟩ := (PRate.suffix_iff _).1 h
    obtain ⟨t, ht⟩ : ∃ t : ByteArray, t = ⟨(Lib.trimSuffix s.data.toList [37]).toArray⟩ := ⟨_, rfl⟩
    change Hid (Calls _ _ _ _ fun e w' => e = .returned (.tuple #[.string ⟨(Lib.trimSuffix s.data.toList [37]).toArray⟩, .bool (Lib.hasSuffix s.data.toList [37])]) ∧ w' = w) at C
    rw [h, ← ht] at C
    have htl : t.data.toList = k := by rw [ht, hk, PRate.trim_snoc]
    have hts : t.size ≤ 9223372036854775807 := by
      have h1 : s.data.toList.length = k.length + 1 := by rw [hk]; simp
      have h2 : t.data.toList.length = k.length := by rw [htl]
      rw [len_of] at h1 h2
      omega
    have P := Lib.hid (parse_any t w hts)
    rw [htl] at P
    have HQ : Hid (PRate.parse s.data.toList = (PMoney.parse k).filter (fun n => decide (0 ≤ n ∧ n ≤ 10000))) := Lib.hid (by unfold PRate.parse; rw [if_pos h, hk, PRate.trim_snoc])
    clear ht htl hk h
    rcases hp : PMoney.parse k with _ | n
    · rw [parseV_none hp] at P
      have HR := Lib.hid (rparseV_none (by rw [HQ.out, hp]; rfl))
      clear hp
      go_enter Tryz.func78, Tryz.ntmps78
      go_wp2_with fail
      refine C.out.mono ?_
      rintro _ _ ⟨rfl, rfl⟩
      go_wp2_with fail
      refine P.out.mono ?_
      rintro _ _ ⟨rfl, rfl⟩
      go_wp2_with fail
      go_ret2
      exact ⟨by rw [HR.out]; rfl, rfl⟩
    · rw [parseV_some hp] at P
      by_cases hr : 0 ≤ n ∧ n ≤ 10000
      · have HR := Lib.hid (rparseV_some (n := n) (by rw [HQ.out, hp, Option.filter_some, if_pos (decide_eq_true hr)]))
        clear hp
        have R := Lib.hid (rate_yes n w hr); clear hr
        go_enter Tryz.func78, Tryz.ntmps78
        go_wp2_with fail
        refine C.out.mono ?_
        rintro _ _ ⟨rfl, rfl⟩
        go_wp2_with fail
        refine P.out.mono ?_
        rintro _ _ ⟨rfl, rfl⟩
        go_wp2_with fail
        refine R.out.mono ?_
        rintro _ _ ⟨rfl, rfl⟩
        go_wp2_with fail
        go_ret2
        exact ⟨by rw [HR.out]; rfl, rfl⟩
      · have HR := Lib.hid (rparseV_none (by rw [HQ.out, hp, Option.filter_some, if_neg (by rw [decide_eq_true_iff]; exact hr)]))
        clear hp
        have R := Lib.hid (rate_no n w hr); clear hr
        go_enter Tryz.func78, Tryz.ntmps78
        go_wp2_with fail
        refine C.out.mono ?_
        rintro _ _ ⟨rfl, rfl⟩
        go_wp2_with fail
        refine P.out.mono ?_
        rintro _ _ ⟨rfl, rfl⟩
        go_wp2_with fail
        refine R.out.mono ?_
        rintro _ _ ⟨rfl, rfl⟩
        go_wp2_with fail
        go_ret2
        exact ⟨by rw [HR.out]; rfl, rfl⟩
  · have hf : Lib.hasSuffix s.data.toList [37] = false := by simpa using h
    change Hid (Calls _ _ _ _ fun e w' => e = .returned (.tuple #[.string ⟨(Lib.trimSuffix s.data.toList [37]).toArray⟩, .bool (Lib.hasSuffix s.data.toList [37])]) ∧ w' = w) at C
    have HR := Lib.hid (rparseV_none (l := s.data.toList) (by unfold PRate.parse; rw [if_neg h]))
    rw [hf] at C
    clear h hf
    go_enter Tryz.func78, Tryz.ntmps78
    go_wp2_with fail
    refine C.out.mono ?_
    rintro _ _ ⟨rfl, rfl⟩
    go_wp2_with fail
    go_ret2
    exact ⟨by rw [HR.out]; rfl, rfl⟩
end Go.Proofs.YtdkcdgjpcojdfaaGreatDoor
