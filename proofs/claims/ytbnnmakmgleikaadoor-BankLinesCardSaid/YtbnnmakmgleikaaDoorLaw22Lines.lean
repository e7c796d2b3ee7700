/-
  BankLines: a file's text has a line for each payment, of 27 bytes, and two more.
-/
import Derived.Test.YtbnnmakmgleikaaDoorLaw22Kit
import Derived.Test.YtbnnmakmgleikaaDoorLaw22Writes
import Derived.Test.YtbnnmakmgleikaaDoorBkLawMath
import Derived.BigQuiet
set_option linter.unusedVariables false
namespace Go.Proofs.YtbnnmakmgleikaaDoor
open Go.RowKit
open PBank (Pay)

theorem below_drewL (w : World) (q : Nat) : Below w.heap.size w (w.drewN q) := ⟨rfl, rfl, rfl, Nat.le_refl _, fun _ _ => rfl⟩
theorem byte_of {s : ByteArray} {l : List UInt8} (h : s.data.toList = l) {i : Nat} {b : UInt8} (hb : l[i]? = some b) : ∃ hi : i < s.size, s[i] = b := by
  subst h
  obtain ⟨hi, e⟩ := List.getElem?_eq_some_iff.1 hb
  have hi2 : i < s.size := by simpa using hi
  exact ⟨hi2, by rw [← e]; rfl⟩
set_option maxRecDepth 100000 in
set_option maxHeartbeats 12800000 in
theorem blines_walk {per : Int} {A : Option Addr} {n c : Nat} {l : List Pay} (w : World) (ht : TabE w) (hS : SlX payR w A n l) (hn : (n : Int) ≤ 9223372036854775807) : Calls Tryd.prog 6 #[.agg #[.int .i64 per, .slice A n c]] w (FlagB true w) := by
  obtain ⟨Q, hQ⟩ : ∃ Q, FlagB true w = Q := ⟨_, rfl⟩
  rw [hQ]
  have FIN : Hid (∀ (w' : World), Below w.heap.size w w' → Q (.returned (.bool true)) w') := Lib.hid (fun w' a => by rw [← hQ]; exact ⟨rfl, a⟩)
  obtain ⟨w1, hw1, XB, b1⟩ : ∃ w1, w.alloc (.cells #[.int .i64 per, .slice A n c] 24) = w1 ∧ Box w1 w.heap.size [.int .i64 per, .slice A n c] ∧ Below w.heap.size w w1 := ⟨_, rfl, Box.new _ _ [.int .i64 per, .slice A n c], (Below.refl _ _).alloc (Nat.le_refl _) _⟩
  obtain ⟨x0, x1⟩ := c2 XB
  have hsx := XB.1
  have HS := Lib.hid (hS.on b1); have HXB := Lib.hid XB; have HT := Lib.hid (ht.on b1)
  have B1 := Lib.hid b1; have HW1 := Lib.hid hw1
  have hln : l.length = n := hS.1
  clear hQ XB b1 hw1 hS ht
  by_cases hR : PBank.Rt per l
  · have hsz := PBank.txt_len hR
    have CW := Lib.hid (kbwrite_yes (per := per) (c := c) HS.out hn HT.out.1 hR)
    have HR := Lib.hid hR
    obtain ⟨s, hs⟩ : ∃ s : ByteArray, (⟨(PBank.txt per l).toArray⟩ : ByteArray) = s := ⟨_, rfl⟩
    have hsl : s.data.toList = PBank.txt per l := by rw [← hs]
    have hss : s.size = 33 + 28 * n := by rw [← hln, ← hsz, ← hsl]; simp
    have CW2 : Hid (Calls Tryd.prog 10 #[.agg #[.int .i64 per, .slice A n c]] w1 (WrS s w1)) := Lib.hid (by rw [← hs]; exact CW.out)
    have HSL := Lib.hid hsl; have HLN := Lib.hid hln
    clear hR CW hs hsl hln hsz
    by_cases h6 : 100 < n
    · have gl : (100 : Int) < (n : Int) := by omega
      go_enter Tryd.func6, Tryd.ntmps6
      go_upto_region 1 with fail
      rw [HW1.out]
      go_wp2_with (go_at_call 10; refine CW2.out.mono ?_)
      intro e2 w2 h2
      obtain ⟨rfl, b2⟩ := h2
      have AW := Lib.hid (aw22_any w2 (HT.out.on b2).1 (HT.out.on b2).2)
      have B2 := Lib.hid (below_step B1.out b2)
      obtain ⟨y0, y1⟩ := c2 (HXB.out.on b2)
      have hsy := (HXB.out.on b2).1
      clear b2 CW2 x0 x1 hsx
      go_wp2_with (go_at_call 9; refine AW.out.mono ?_)
      intro e3 w3 h3
      obtain ⟨rfl, b3'⟩ := h3
      have B3 := Lib.hid (below_step B2.out b3')
      clear b3' AW
      go_wp2_with fail
      exact FIN.out _ B3.out
    have gl : ¬ (100 : Int) < (n : Int) := by omega
    have hn1 : n ≤ 100 := by omega
    obtain ⟨hi0, e0⟩ := byte_of HSL.out PBank.txt_h
    obtain ⟨hi6, e6⟩ := byte_of HSL.out (PBank.txt_six HR.out)
    have hT := PBank.txt_t HR.out
    have hE := PBank.txt_last HR.out
    rw [HLN.out] at hT hE
    obtain ⟨hi7, e7⟩ := byte_of HSL.out hT
    obtain ⟨hi8, e8⟩ := byte_of HSL.out hE
    go_enter Tryd.func6, Tryd.ntmps6
    go_upto_region 1 with fail
    rw [HW1.out]
    go_wp2_with (go_at_call 10; refine CW2.out.mono ?_)
    intro e2 w2 h2
    obtain ⟨rfl, b2⟩ := h2
    have B2 := Lib.hid b2
    obtain ⟨y0, y1⟩ := c2 (HXB.out.on b2)
    have hsy := (HXB.out.on b2).1
    clear b2 CW2 x0 x1 hsx hT hE
    go_upto_region 5 with fail
    go_wp2_with fail
    clear y0 y1 hsy e0 e6 e7 e8 hi0 hi6 hi7 hi8
    go_loopw [71] (fun i wr => ∃ k : Nat, i = .int .i64 k ∧ k ≤ n ∧ Hid (Below w2.heap.size w2 wr)) (fun i _ => n - (intOf i).toNat)
    case atStart => exact ⟨0, rfl, Nat.zero_le _, Lib.hid (Below.refl _ _)⟩
    case round =>
      obtain ⟨k, rfl, hk, I1⟩ := hrel
      have b1r := below_step B2.out I1.out
      by_cases hlt : k < n
      · have gk : (k : Int) < (n : Int) := by omega
        have gk0 : (0 : Int) ≤ (k : Int) := by omega
        obtain ⟨p, hp⟩ : ∃ p, l[k]? = some p := ⟨_, List.getElem?_eq_getElem (by rw [HLN.out]; exact hlt)⟩
        obtain ⟨b, o, rfl, -⟩ := (HS.out.on b1r).at hlt
        obtain ⟨l0, l1, l2⟩ := pay_cell (HS.out.on b1r) hlt hp
        have hsl := World.block_lt_of_cell? wr _ l0
        have hkd := (PBank.okP_iff.1 (HR.out.mem (List.mem_of_getElem? hp))).1
        obtain ⟨hia, ea⟩ := byte_of HSL.out (PBank.txt_kind HR.out hp)
        obtain ⟨hib, eb⟩ := byte_of HSL.out (PBank.txt_end HR.out hp)
        obtain ⟨w9, hw9, SB, b9⟩ : ∃ w9, wr.alloc (.cells #[.int .u8 0, .int .i64 0, .int .i64 0] 44) = w9 ∧ Box w9 wr.heap.size [.int .u8 0, .int .i64 0, .int .i64 0] ∧ Below wr.heap.size wr w9 := ⟨_, rfl, Box.new _ _ [.int .u8 0, .int .i64 0, .int .i64 0], (Below.refl _ _).alloc (Nat.le_refl _) _⟩
        obtain ⟨w10, hw10, X10, ON10⟩ := set3 SB (.int .u8 p.kind) (.int .i64 p.num) (.int .i64 p.amt)
        have b10 : Below wr.heap.size wr w10 := ON10.below (Nat.le_refl _) b9
        have B10 := Lib.hid (below_step I1.out b10)
        obtain ⟨s0, s1, s2⟩ := b3 SB
        obtain ⟨m0, m1, m2⟩ := f3 SB
        have hs9 := SB.1
        obtain ⟨u0, u1, u2⟩ := b3 X10
        have hs10 := X10.1
        have HW10 := Lib.hid hw10
        clear SB X10 ON10 b9 b10 hw10 I1 b1r hp
        go_upto_region 10 with fail
        rw [HW10.out]
        clear HW10 hw9 s0 s1 s2 m0 m1 m2 hs9 l0 l1 l2 hsl
        have q1 : (0 : Int) ≤ 7 + 28 * (k : Int) := by omega
        have q2 : 7 + 28 * (k : Int) < (s.size : Int) := by omega
        have q3 : (0 : Int) ≤ 7 + 28 * (k : Int) + 27 := by omega
        have q4 : 7 + 28 * (k : Int) + 27 < (s.size : Int) := by omega
        have n1 : (7 + 28 * (k : Int)).toNat = 7 + 28 * k := by omega
        have n2 : (7 + 28 * (k : Int) + 27).toNat = 7 + 28 * k + 27 := by omega
        clear hss
        rcases hkd with hkd | hkd
        all_goals
          rw [hkd] at ea u0
          go_quiet (fail)
          have BQ := Lib.hid (B10.out.trans ((below_drewL w10 nq).mono B10.out.size))
          go_wp2_with fail
          exact ⟨⟨k + 1, by congr 1, by omega, BQ⟩, by simp [intOf]; omega⟩
      · obtain rfl : k = n := by omega
        have gk : ¬ (k : Int) < (k : Int) := by omega
        have AW := Lib.hid (aw22_any wr (HT.out.on b1r).1 (HT.out.on b1r).2)
        have BR := Lib.hid (below_step B1.out b1r)
        clear b1r
        go_wp2_with (go_at_call 9; refine AW.out.mono ?_)
        intro e3 w3 h3
        obtain ⟨rfl, b3'⟩ := h3
        have B3 := Lib.hid (below_step BR.out b3')
        clear b3' AW
        go_wp2_with fail
        exact FIN.out _ B3.out
  · have CW := Lib.hid (kbwrite_no (per := per) (c := c) HS.out hn hR)
    clear hR hln
    have AWA : Hid (∀ wz, Below w1.heap.size w1 wz → Calls Tryd.prog 9 #[] wz (FlagB true wz)) := Lib.hid (fun wz hb => aw22_any wz (HT.out.on hb).1 (HT.out.on hb).2)
    by_cases h6 : (100 : Int) < (n : Int)
    all_goals
      go_enter Tryd.func6, Tryd.ntmps6
      go_upto_region 1 with fail
      rw [HW1.out]
      go_wp2_with (go_at_call 10; refine CW.out.mono ?_)
      intro e2 w2 h2
      obtain ⟨rfl, b2⟩ := h2
      have AW := Lib.hid (AWA.out w2 b2)
      have B2 := Lib.hid (below_step B1.out b2)
      obtain ⟨y0, y1⟩ := c2 (HXB.out.on b2)
      have hsy := (HXB.out.on b2).1
      clear b2 CW x0 x1 hsx
      go_wp2_with (go_at_call 9; refine AW.out.mono ?_)
      intro e3 w3 h3
      obtain ⟨rfl, b3'⟩ := h3
      have B3 := Lib.hid (below_step B2.out b3')
      clear b3' AW
      go_wp2_with fail
      exact FIN.out _ B3.out
end Go.Proofs.YtbnnmakmgleikaaDoor
