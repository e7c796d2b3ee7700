/-
  What rate.Parse answers: the rate of a text, or that there is none.
-/
import Derived.Test.YtfihdbnecepmfaaGreatDoorRR
import Derived.Test.YtfihdbnecepmfaaGreatDoorPM
import Derived.Test.YtfihdbnecepmfaaGreatDoorMoneyParseG

namespace Go.Proofs.YtfihdbnecepmfaaGreatDoor
open Go.RowKit

def rparseV (l : List UInt8) : Value := match PRate.parse l with
  | some n => .tuple #[.int .i64 n, .bool true]
  | none => .tuple #[.int .i64 0, .bool false]
theorem rparseV_some {l : List UInt8} {n : Int} (h : PRate.parse l = some n) : rparseV l = .tuple #[.int .i64 n, .bool true] := by unfold rparseV; rw [h]
theorem rparseV_none {l : List UInt8} (h : PRate.parse l = none) : rparseV l = .tuple #[.int .i64 0, .bool false] := by unfold rparseV; rw [h]

set_option maxHeartbeats 1600000 in
theorem rparse_any (s : ByteArray) (w : World) (hs : s.size ≤ 9223372036854775807) :
    Calls Tryz.prog 92 #[.string s] w fun e w' => e = .returned (rparseV s.data.toList) ∧ w = w' := by
  have C := Lib.hid (Tryz.strings_CutSuffix s ⟨#[37]⟩ w hs)
  by_cases h : Lib.hasSuffix s.data.toList [37] = true
  · obtain ⟨k, hk⟩ := (PRate.suffix_iff _).1 h
    obtain ⟨t, ht⟩ : ∃ t : ByteArray, t = ⟨(Lib.trimSuffix s.data.toList [37]).toArray⟩ := ⟨_, rfl⟩
    change Hid (Calls _ _ _ _ fun e w' => e = .returned (.tuple #[.string ⟨(Lib.trimSuffix s.data.toList [37]).toArray⟩, .bool (Lib.hasSuffix s.data.toList [37])]) ∧ w' = w) at C
    rw [h, ← ht] at C
    have htl : t.data.toList = k := by rw [ht, hk, PRate.trim_snoc]
    have hts : t.size ≤ 9223372036854775807 := by
      have h1 : s.data.toList.length = k.length + 1 := by rw [hk]; simp
      have h2 : t.data.toList.length = k.length := by rw [htl]
      rw [len_of] at h1 h2
      omega
    have P := Lib.hid (parse_any t w hts)
    rw [htl] at P
    have HQ : Hid (PRate.parse s.data.toList = (PMoney.parse k).filter (fun n => decide (0 ≤ n ∧ n ≤ 10000))) := Lib.hid (by unfold PRate.parse; rw [if_pos h, hk, PRate.trim_snoc])
    clear ht htl hk h
    rcases hp : PMoney.parse k with _ | n
    · rw [parseV_none hp] at P
      have HR := Lib.hid (rparseV_none (by rw [HQ.out, hp]; rfl))
      clear hp
      go_enter Tryz.func92, Tryz.ntmps92
      go_wp2_with fail
      refine C.out.mono ?_
      rintro _ _ ⟨rfl, rfl⟩
      go_wp2_with fail
      refine P.out.mono ?_
      rintro _ _ ⟨rfl, rfl⟩
      go_wp2_with fail
      go_ret2
      exact ⟨by rw [HR.out]; rfl, rfl⟩
    · rw [parseV_some hp] at P
      by_cases hr : 0 ≤ n ∧ n ≤ 10000
      · have HR := Lib.hid (rparseV_some (n := n) (by rw [HQ.out, hp, Option.filter_some, if_pos (decide_eq_true hr)]))
        clear hp
        have R := Lib.hid (rate_yes n w hr); clear hr
        go_enter Tryz.func92, Tryz.ntmps92
        go_wp2_with fail
        refine C.out.mono ?_
        rintro _ _ ⟨rfl, rfl⟩
        go_wp2_with fail
        refine P.out.mono ?_
        rintro _ _ ⟨rfl, rfl⟩
        go_wp2_with fail
        refine R.out.mono ?_
        rintro _ _ ⟨rfl, rfl⟩
        go_wp2_with fail
        go_ret2
        exact ⟨by rw [HR.out]; rfl, rfl⟩
      · have HR := Lib.hid (rparseV_none (by rw [HQ.out, hp, Option.filter_some, if_neg (by rw [decide_eq_true_iff]; exact hr)]))
        clear hp
        have R := Lib.hid (rate_no n w hr); clear hr
        go_enter Tryz.func92, Tryz.ntmps92
        go_wp2_with fail
        refine C.out.mono ?_
        rintro _ _ ⟨rfl, rfl⟩
        go_wp2_with fail
        refine P.out.mono ?_
        rintro _ _ ⟨rfl, rfl⟩
        go_wp2_with fail
        refine R.out.mono ?_
        rintro _ _ ⟨rfl, rfl⟩
        go_wp2_with fail
        go_ret2
        exact ⟨by rw [HR.out]; rfl, rfl⟩
  · have hf : Lib.hasSuffix s.data.toList [37] = false := by simpa using h
    change Hid (Calls _ _ _ _ fun e w' => e = .returned (.tuple #[.string ⟨(Lib.trimSuffix s.data.toList [37]).toArray⟩, .bool (Lib.hasSuffix s.data.toList [37])]) ∧ w' = w) at C
    have HR := Lib.hid (rparseV_none (l := s.data.toList) (by unfold PRate.parse; rw [if_neg h]))
    rw [hf] at C
    clear h hf
    go_enter Tryz.func92, Tryz.ntmps92
    go_wp2_with fail
    refine C.out.mono ?_
    rintro _ _ ⟨rfl, rfl⟩
    go_wp2_with fail
    go_ret2
    exact ⟨by rw [HR.out]; rfl, rfl⟩
end Go.Proofs.YtfihdbnecepmfaaGreatDoor
