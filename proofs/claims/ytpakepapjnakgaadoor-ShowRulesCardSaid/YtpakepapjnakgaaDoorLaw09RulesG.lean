/-
  ShowRules: a program's text has a line for each rule, that ends with ;.
-/
import Derived.Test.YtpakepapjnakgaaDoorLR
import Derived.Deep.RegionHeld3
import Derived.Test.YtpakepapjnakgaaDoorLaw09BareG

set_option linter.unusedVariables false
namespace Go.Proofs.YtpakepapjnakgaaDoor
open Go.RowKit
open PTree (R Ex Tr Rl Row)
open PCheck (Xp)

theorem lines_math : ∀ (rs : List Rl), PTree.Lo (PTree.rulesT rs) → (PTree.textB rs).count 10 = rs.length ∧ (∀ (k : Nat), (PTree.textB rs)[k]? = some 10 → ∃ j, k = j + 1 ∧ (PTree.textB rs)[j]? = some 59) ∧ (rs ≠ [] → ∃ m, (PTree.textB rs).length = m + 1 ∧ (PTree.textB rs)[m]? = some 10)
  | [], _ => ⟨rfl, (fun k h => by cases h), fun h => absurd rfl h⟩
  | r :: rs, h => by
    rw [PTree.rulesT_cons] at h
    obtain ⟨h1, h2⟩ := PTree.lo_app.1 h
    obtain ⟨h3, l, h4⟩ := PTree.rule_line h1
    obtain ⟨i1, i2, i3⟩ := lines_math rs h2
    have e : PTree.textB (r :: rs) = PTree.ruleB r ++ 10 :: PTree.textB rs := rfl
    rw [e]
    refine ⟨?_, fun k hk => ?_, fun _ => ?_⟩
    · rw [List.count_append, List.count_eq_zero.2 h3, List.count_cons, i1]; simp
    · by_cases hk1 : k < (PTree.ruleB r).length
      · rw [List.getElem?_append_left hk1] at hk
        exact absurd (List.mem_of_getElem? hk) h3
      · obtain ⟨q, rfl⟩ : ∃ q, k = (PTree.ruleB r).length + q := ⟨k - (PTree.ruleB r).length, by omega⟩
        rw [List.getElem?_append_right (by omega), Nat.add_sub_cancel_left] at hk
        cases q with
        | zero =>
          refine ⟨l.length, by rw [h4]; simp, ?_⟩
          rw [List.getElem?_append_left (by rw [h4]; simp), h4]
          simp
        | succ q =>
          obtain ⟨j, rfl, hj⟩ := i2 q (by simpa using hk)
          refine ⟨(PTree.ruleB r).length + (j + 1), by omega, ?_⟩
          rw [List.getElem?_append_right (by omega), Nat.add_sub_cancel_left]
          simpa using hj
    · by_cases h0 : rs = []
      · subst h0
        refine ⟨(PTree.ruleB r).length, by simp [PTree.textB], ?_⟩
        rw [List.getElem?_append_right (Nat.le_refl _), Nat.sub_self]; rfl
      · obtain ⟨m, hm, hm2⟩ := i3 h0
        refine ⟨(PTree.ruleB r).length + (m + 1), by rw [List.length_append, List.length_cons, hm]; omega, ?_⟩
        rw [List.getElem?_append_right (by omega), Nat.add_sub_cancel_left]
        simpa using hm2
set_option maxRecDepth 100000 in
set_option maxHeartbeats 12800000 in
theorem rules9_walk (s : ByteArray) (w : World) (ht : Tab w) (hs : s.size ≤ maxLen) :
    Calls Tryd.prog 6 #[.string s] w (Yes w) := by
  obtain ⟨Q, hQ⟩ : ∃ Q, Yes w = Q := ⟨_, rfl⟩
  rw [hQ]
  have FIN : Hid (∀ (w' : World), Below w.heap.size w w' → Q (.returned (.bool true)) w') := Lib.hid (fun w' a => by rw [← hQ]; exact ⟨rfl, a⟩)
  have HT := Lib.hid ht
  unfold maxLen at hs
  clear hQ ht
  by_cases h6 : 500 < s.size
  · have hl : (500 : Int) < (s.size : Int) := by omega
    have AW := Lib.hid (aw9_yes w HT.out)
    go_enter Tryd.func6, Tryd.ntmps6
    go_wp2_with (go_at_call 8; refine AW.out.mono ?_)
    intro e1 w1 h1
    obtain ⟨rfl, b1⟩ := h1
    have B1 := Lib.hid b1
    clear b1 AW
    go_wp2_with fail
    exact FIN.out _ B1.out
  have hl : ¬ (500 : Int) < (s.size : Int) := by omega
  cases hp : PTree.parse s.data.toList with
  | none =>
    have PA := Lib.hid (tparse_any s w (by omega))
    have HP := Lib.hid hp
    clear hp
    go_enter Tryd.func6, Tryd.ntmps6
    go_wp2_with (go_at_call 9; refine PA.out.mono ?_)
    intro e1 w1 h1
    obtain ⟨-, h1⟩ := h1
    rw [HP.out] at h1
    exact h1.elim
  | some r =>
    cases r with
    | bad k q =>
      have PA := Lib.hid (tparse_any s w (by omega))
      have HP := Lib.hid hp
      clear hp
      go_enter Tryd.func6, Tryd.ntmps6
      go_wp2_with (go_at_call 9; refine PA.out.mono ?_)
      intro e1 w1 h1
      obtain ⟨b1, h1⟩ := h1
      rw [HP.out] at h1
      obtain ⟨rfl, hk0⟩ := h1
      obtain ⟨w2, hw2, YB, b2⟩ : ∃ w2, w1.alloc (.cells #[.slice none 0 0, .slice none 0 0] 26) = w2 ∧ Box w2 w1.heap.size [.slice none 0 0, .slice none 0 0] ∧ Below w1.heap.size w1 w2 := ⟨_, rfl, Box.new _ _ [.slice none 0 0, .slice none 0 0], (Below.refl _ _).alloc (Nat.le_refl _) _⟩
      obtain ⟨w3, hw3, Y3, ON3⟩ := store2 YB (.slice none 0 0) (.slice none 0 0)
      have b3 := ON3.below (Nat.le_refl _) b2
      have B3 := Lib.hid (below_step b1 b3)
      have AW := Lib.hid (aw9_yes w3 (HT.out.on B3.out))
      obtain ⟨y0, y1⟩ := px2 YB
      obtain ⟨z0, z1⟩ := px2f YB
      have hs2 := YB.1
      obtain ⟨q0, q1⟩ := px2 Y3
      have hs3 := Y3.1
      have HW3 := Lib.hid hw3
      have gk : ((k : Int) == 0) = false := by rw [beq_eq_false_iff_ne]; omega
      clear YB Y3 ON3 b1 b2 b3 hw3 PA
      go_upto_region 4 with fail
      rw [HW3.out]
      clear HW3 hw2 y0 y1 z0 z1 hs2
      go_wp2_with (go_at_call 8; refine AW.out.mono ?_)
      intro e4 w4 h4
      obtain ⟨rfl, b4⟩ := h4
      have B4 := Lib.hid (below_step B3.out b4)
      clear b4 AW
      go_wp2_with fail
      exact FIN.out _ B4.out
    | ok t rs =>
      obtain ⟨rl, hrl⟩ : ∃ rl, rs.length = rl := ⟨_, rfl⟩
      obtain ⟨sz, hsz⟩ : ∃ sz, PTree.sizeOf rs = sz := ⟨_, rfl⟩
      have hsl : s.data.toList.length ≤ 500 := by rw [Array.length_toList]; show s.size ≤ 500; omega
      have PA := Lib.hid (tparse_rows hp (by omega) w hrl hsz)
      obtain ⟨T, hT⟩ : ∃ T, PTree.textB rs = T := ⟨_, rfl⟩
      have TX := Lib.hid (fun (wa : World) (A B : Option Addr) (ca cb : Nat) (h1 : SlX rowR wa A rl (PTree.rowsOf 0 rs)) (h2 : SlX exR wa B sz (PTree.exprsOf 0 rs)) (h3 : Tab wa) => ptext (rc := ca) (c := cb) hp hsl h1 h2 h3)
      have hlen := (PShow.got hp).len
      rw [hT] at TX hlen
      have HP := Lib.hid hp; have HTT := Lib.hid hT; have HRL := Lib.hid hrl; have HSZ := Lib.hid hsz
      have hln : T.length ≤ 1500 := by omega
      clear hp hlen hT hrl hsz hsl
      go_enter Tryd.func6, Tryd.ntmps6
      go_wp2_with (go_at_call 9; refine PA.out.mono ?_)
      intro e1 w1 h1
      obtain ⟨A1, ca1, B1, cb1, rfl, s1, s2, b1⟩ := h1
      obtain ⟨w2, hw2, YB, b2⟩ : ∃ w2, w1.alloc (.cells #[.slice none 0 0, .slice none 0 0] 26) = w2 ∧ Box w2 w1.heap.size [.slice none 0 0, .slice none 0 0] ∧ Below w1.heap.size w1 w2 := ⟨_, rfl, Box.new _ _ [.slice none 0 0, .slice none 0 0], (Below.refl _ _).alloc (Nat.le_refl _) _⟩
      obtain ⟨w3, hw3, Y3, ON3⟩ := store2 YB (.slice A1 rl ca1) (.slice B1 sz cb1)
      have b3 := ON3.below (Nat.le_refl _) b2
      have B3 := Lib.hid (below_step b1 b3)
      have S1 := Lib.hid (s1.on b3); have S2 := Lib.hid (s2.on b3)
      have T3 := HT.out.on B3.out
      have TX3 := Lib.hid (TX.out w3 A1 B1 ca1 cb1 S1.out S2.out T3)
      have HT3 := Lib.hid T3
      have HY3 := Lib.hid Y3
      obtain ⟨y0, y1⟩ := px2 YB
      obtain ⟨z0, z1⟩ := px2f YB
      have hs2 := YB.1
      obtain ⟨q0, q1⟩ := px2 Y3
      have hs3 := Y3.1
      have HW3 := Lib.hid hw3
      clear YB Y3 ON3 b1 b2 b3 hw3 PA s1 s2 T3
      go_upto_region 4 with fail
      rw [HW3.out]
      clear HW3 hw2 y0 y1 z0 z1 hs2
      go_wp2_with (go_at_call 10; refine TX3.out.mono ?_)
      intro e4 w4 h4
      obtain ⟨rfl, b4⟩ := h4
      have B4 := Lib.hid (below_step B3.out b4)
      have HY4 := Lib.hid (HY3.out.on b4)
      have HT4 := Lib.hid (HT3.out.on b4)
      have AW := Lib.hid (fun (wa : World) (h : Below w4.heap.size w4 wa) => aw9_yes wa (HT4.out.on h))
      clear b4 TX3 S1 S2 HY3 HT3 q0 q1 hs3 TX
      obtain ⟨m1, m2, m3⟩ := lines_math rs (PShow.got HP.out).lo
      rw [HTT.out] at m1 m2 m3
      rw [HRL.out] at m1
      obtain ⟨y, hy⟩ : ∃ y : ByteArray, (⟨T.toArray⟩ : ByteArray) = y := ⟨_, rfl⟩
      have hyT : y.data.toList = T := by rw [← hy]
      have hysz : y.size ≤ 1500 := by show y.data.size ≤ 1500; rw [← Array.length_toList, hyT]; exact hln
      dsimp only
      rw [hy]
      rw [← hyT] at m1 m2 m3
      have gT : ∀ (k : Nat) (h : k < y.size) (c : UInt8), y.data.toList[k]? = some c ↔ y[k] = c := by
        intro k h c
        have hl : k < y.data.toList.length := by rw [Array.length_toList]; exact h
        rw [List.getElem?_eq_getElem hl, Array.getElem_toList]
        exact ⟨fun e => Option.some.inj e, fun e => congrArg some e⟩
      have hrl0 : rl = 0 → y = { data := #[] } := by
        intro e
        have h0 : rs = [] := List.eq_nil_of_length_eq_zero (by rw [HRL.out]; exact e)
        have h1 := HTT.out
        rw [h0] at h1
        rw [← hy, ← h1]; rfl
      have hrl1 : rl ≠ 0 → ∃ m, y.size = m + 1 ∧ ∀ h : m < y.size, y[m] = 10 := by
        intro e
        obtain ⟨m, g1, g2⟩ := m3 (by rintro rfl; exact e HRL.out.symm)
        rw [Array.length_toList] at g1
        exact ⟨m, g1, fun h => (gT m h 10).1 g2⟩
      have m4 : ∀ (k : Nat) (h : k < y.size), y[k] = 10 → ∃ j, k = j + 1 ∧ ∃ h2 : j < y.size, y[j] = 59 := by
        intro k h e
        obtain ⟨j, rfl, hj⟩ := m2 k ((gT k h 10).2 e)
        exact ⟨j, rfl, by omega, (gT j (by omega) 59).1 hj⟩
      have M1 := Lib.hid m1; have M4 := Lib.hid m4; have HR0 := Lib.hid hrl0; have HR1 := Lib.hid hrl1
      clear m1 m2 m3 m4 gT hyT hy hrl0 hrl1 hln
      obtain ⟨q0, q1⟩ := px2 HY4.out
      have hs4 := HY4.out.1
      go_upto_region 8 with fail
      go_wp2_with fail
      clear q0 q1 hs4
      go_loopw [8, 36] (fun o i wx => ∃ k : Nat, i = .int .i64 k ∧ o = .int .i64 (cntTo 10 y k : Nat) ∧ k ≤ y.size ∧ Hid (Below w4.heap.size w4 wx)) (fun _ i _ => y.size - (intOf i).toNat)
      case atStart => exact ⟨0, rfl, rfl, Nat.zero_le _, Lib.hid (Below.refl _ _)⟩
      case round =>
        obtain ⟨k, rfl, rfl, hk, I1⟩ := hrel
        by_cases hkn : k < y.size
        · have hstep := cntTo_step (c := 10) hkn
          have hle := cntTo_le 10 y k
          obtain ⟨ck, hck⟩ : ∃ ck, cntTo 10 y k = ck := ⟨_, rfl⟩
          rw [hck] at hstep hle ⊢
          by_cases hc : y[k] = 10
          · rw [if_pos hc] at hstep
            have HS := Lib.hid hstep
            obtain ⟨j, rfl, hj, hj59⟩ := M4.out k hkn hc
            have gk : ((j + 1 : Nat) : Int) < (y.size : Int) := by omega
            have gj : (j : Int) < (y.size : Int) := by omega
            have g0 : ((j : Int) + 1 == 0) = false := by rw [beq_eq_false_iff_ne]; omega
            clear hstep hck
            go_wp2_with fail
            exact ⟨⟨j + 1 + 1, by congr 1, by rw [HS.out]; congr 1, by omega, I1⟩, by simp [intOf]; omega⟩
          · rw [if_neg hc] at hstep
            have HS := Lib.hid hstep
            have gk : (k : Int) < (y.size : Int) := by omega
            have hb : (y[k] == 10) = false := by rw [beq_eq_false_iff_ne]; exact hc
            have hb2 : ((y[k].toNat : Int) == 10) = false := by
              rw [beq_eq_false_iff_ne]; intro e; apply hc
              apply UInt8.toNat_inj.1; show y[k].toNat = 10; omega
            clear hstep hck
            go_wp2_with fail
            exact ⟨⟨k + 1, by congr 1, by rw [HS.out]; congr 1, by omega, I1⟩, by simp [intOf]; omega⟩
        · obtain rfl : k = y.size := by omega
          have gk : ¬ (y.size : Int) < (y.size : Int) := by omega
          have AW2 := Lib.hid (AW.out wr I1.out)
          have hcr : cntTo 10 y y.size = rl := by rw [cntTo_all]; exact M1.out
          rw [hcr]
          obtain ⟨q0, q1⟩ := px2 (HY4.out.on I1.out)
          have hs4 := (HY4.out.on I1.out).1
          clear hcr hk
          by_cases h0 : rl = 0
          · have hy0 := HR0.out h0
            subst h0
            subst hy0
            go_wp2_with (go_at_call 8; refine AW2.out.mono ?_)
            intro e5 w5 h5
            obtain ⟨rfl, b5⟩ := h5
            have B5 := Lib.hid (below_step (below_step B4.out I1.out) b5)
            clear b5 AW2
            go_wp2_with fail
            exact FIN.out _ B5.out
          · obtain ⟨m, hm, hm10⟩ := HR1.out h0
            have hmlt : m < y.size := by omega
            have hy10 := hm10 hmlt
            have gsz : (y.size : Int) = (m : Int) + 1 := by omega
            have gm : (m : Int) < (y.size : Int) := by omega
            have hyn : ¬ y.toList = [] := by
              rw [ByteArray.toList_eq]; intro e
              have h := congrArg List.length e
              rw [Array.length_toList] at h
              have h2 : y.size = 0 := h
              omega
            go_wp2_with (go_at_call 8; refine AW2.out.mono ?_)
            intro e5 w5 h5
            obtain ⟨rfl, b5⟩ := h5
            have B5 := Lib.hid (below_step (below_step B4.out I1.out) b5)
            clear b5 AW2
            go_wp2_with fail
            exact FIN.out _ B5.out
end Go.Proofs.YtpakepapjnakgaaDoor
