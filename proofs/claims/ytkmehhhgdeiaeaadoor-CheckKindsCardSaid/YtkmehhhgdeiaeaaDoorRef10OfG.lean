/-
  What the document's answer of layer 10 says: the kind of one expression, by the kinds of its parts.
-/
import Derived.Test.YtkmehhhgdeiaeaaDoorRef10TableG
import Derived.Test.YtkmehhhgdeiaeaaDoorRef10FindG
namespace Go.Proofs.YtkmehhhgdeiaeaaDoor
open Go.RowKit
open PCheck (Xp Bd bound Four kindBy tableL findRow)

/-- The kind, or 0. -/
def ofK (l : List Bd) (x : Xp) (a b c : Int) : Int := if x.op = PCheck.nameS then (match bound l x.name with | none => 0 | some k => k) else kindBy x.op a b c
theorem ofK_none {l : List Bd} {x : Xp} {a b c : Int} (h : x.op = PCheck.nameS) (hb : bound l x.name = none) : ofK l x a b c = 0 := by unfold ofK; rw [if_pos h, hb]
theorem ofK_name {l : List Bd} {x : Xp} {a b c k : Int} (h : x.op = PCheck.nameS) (hb : bound l x.name = some k) : ofK l x a b c = k := by unfold ofK; rw [if_pos h, hb]
theorem ofK_other {l : List Bd} {x : Xp} {a b c : Int} (h : x.op ≠ PCheck.nameS) : ofK l x a b c = kindBy x.op a b c := by unfold ofK; rw [if_neg h]
theorem kb_neg (a b c : Int) : kindBy PCheck.negS a b c = if a = 1 ∨ a = 3 then a else 0 := by
  show PCheck.oneOf a [1, 3] = _
  unfold PCheck.oneOf
  by_cases h : a = 1 ∨ a = 3
  · rw [if_pos h, if_pos (by simpa using h)]
  · rw [if_neg h, if_neg (by simpa using h)]
theorem kb_if (a b c : Int) : kindBy PCheck.ifS a b c = if a = 4 ∧ b = c then b else 0 := by
  show (if a = 4 then PCheck.common b c else 0) = _
  unfold PCheck.common
  by_cases h : a = 4
  · rw [if_pos h]
    by_cases h2 : b = c
    · rw [if_pos h2, if_pos ⟨h, h2⟩]
    · rw [if_neg h2, if_neg (fun e => h2 e.2)]
  · rw [if_neg h, if_neg (fun e => h e.1)]
theorem kb_two {op : List UInt8} {a b c : Int} (h5 : op ≠ PCheck.ifS) : kindBy op a b c = kindBy op a b 0 := by
  unfold kindBy
  simp only [if_neg h5]
/-- What is answered. -/
def IntAns (z : Int) (w : World) (e : Ending) (w' : World) : Prop := e = .returned (.int .i64 z) ∧ Below w.heap.size w w'
set_option maxHeartbeats 6400000 in
set_option maxRecDepth 100000 in
theorem rof_any {w : World} {LA : Option Addr} {ln lc : Nat} {l : List Bd} {x : Xp} {a b c : Int} (hL : SlX bdR w LA ln l) (hl : ln ≤ 1000) (ha : Four a) (hb : Four b) :
    Calls Tryd.prog 22 #[.agg (xpC x).toArray, .int .i64 a, .int .i64 b, .int .i64 c, .slice LA ln lc] w (IntAns (ofK l x a b c) w) := by
  obtain ⟨F, hF⟩ : ∃ F, ofK l x a b c = F := ⟨_, rfl⟩
  rw [hF]
  obtain ⟨Q, hQ⟩ : ∃ Q, IntAns F w = Q := ⟨_, rfl⟩
  rw [hQ]
  have HQ := Lib.hid hQ
  have hll : l.length = ln := hL.1
  obtain ⟨op, nm, vl, ya, yb, yc⟩ := x
  obtain ⟨w1, hw1, XB, b1⟩ : ∃ w1, w.alloc (.cells #[.string ⟨op.toArray⟩, .string ⟨nm.toArray⟩, .int .i64 vl, .int .i64 ya, .int .i64 yb, .int .i64 yc] 51) = w1 ∧ Box w1 w.heap.size [.string ⟨op.toArray⟩, .string ⟨nm.toArray⟩, .int .i64 vl, .int .i64 ya, .int .i64 yb, .int .i64 yc] ∧ Below w.heap.size w w1 := ⟨_, rfl, Box.new _ _ [.string ⟨op.toArray⟩, .string ⟨nm.toArray⟩, .int .i64 vl, .int .i64 ya, .int .i64 yb, .int .i64 yc], (Below.refl _ _).alloc (Nat.le_refl _) _⟩
  have HW1 := Lib.hid hw1; have B1 := Lib.hid b1
  have L1 := hL.on b1
  have HL1 := Lib.hid L1
  obtain ⟨x0, x1, x2, x3, x4, x5⟩ := box6 XB
  have hsx := XB.1
  clear hw1 b1 XB hL hQ x2 x3 x4 x5
  unfold xpC
  by_cases h6 : op ∈ [PCheck.wholeS, PCheck.amountS, PCheck.rateS, PCheck.nameS, PCheck.negS, PCheck.ifS]
  · simp only [PCheck.wholeS, PCheck.amountS, PCheck.rateS, PCheck.nameS, PCheck.negS, PCheck.ifS, List.mem_cons, List.not_mem_nil, or_false] at h6
    rcases h6 with rfl | rfl | rfl | rfl | rfl | rfl
    · have HF : Hid ((3 : Int) = F) := Lib.hid (by rw [← hF]; rfl)
      clear hF L1 x1
      go_enter Tryd.func22, Tryd.ntmps22
      go_upto_region 1 with fail
      rw [HW1.out]
      go_wp2_with fail
      rw [← HQ.out, ← HF.out]
      exact ⟨rfl, B1.out⟩
    · have HF : Hid ((1 : Int) = F) := Lib.hid (by rw [← hF]; rfl)
      clear hF L1 x1
      go_enter Tryd.func22, Tryd.ntmps22
      go_upto_region 1 with fail
      rw [HW1.out]
      go_wp2_with fail
      rw [← HQ.out, ← HF.out]
      exact ⟨rfl, B1.out⟩
    · have HF : Hid ((2 : Int) = F) := Lib.hid (by rw [← hF]; rfl)
      clear hF L1 x1
      go_enter Tryd.func22, Tryd.ntmps22
      go_upto_region 1 with fail
      rw [HW1.out]
      go_wp2_with fail
      rw [← HQ.out, ← HF.out]
      exact ⟨rfl, B1.out⟩
    · have FD := Lib.hid (rfind_any (c := lc) (s := nm) L1 hl)
      have hn : Hid (bound l nm = none → (0 : Int) = F) := Lib.hid (fun hb => (ofK_none rfl hb).symm.trans hF)
      have hk : Hid (∀ k, bound l nm = some k → k = F) := Lib.hid (fun k hb => (ofK_name rfl hb).symm.trans hF)
      clear hF L1
      go_enter Tryd.func22, Tryd.ntmps22
      go_upto_region 1 with fail
      rw [HW1.out]
      go_wp2_with fail
      refine (FD.out).mono ?_
      rintro _ w2 ⟨z, rfl, hz, b2⟩
      have B2 := Lib.hid (below_step B1.out b2)
      have L2 := HL1.out.on b2
      clear x0 x1 hsx b2 FD HL1
      rcases hz with ⟨rfl, hb⟩ | ⟨i, hi, rfl, hb⟩
      · have HF := Lib.hid (hn.out hb)
        clear hn hk hb L2
        go_wp2_with fail
        rw [← HQ.out, ← HF.out]
        exact ⟨rfl, B2.out⟩
      · have hin : i < ln := by omega
        have gi : (i : Int) < (ln : Int) := by omega
        have g0 : ¬ (i : Int) < 0 := by omega
        obtain ⟨⟨nk, kd⟩, hbd⟩ : ∃ b : Bd, l[i] = b := ⟨_, rfl⟩
        obtain ⟨b, off, rfl, hc⟩ := L2.at hin
        have hd := hc i hi
        rw [hbd] at hd hb
        have c1 : w2.cell? ⟨b, off + i * 2 + 1, none⟩ = some (.int .i64 kd) := hd 1 _ rfl
        have hsb := World.block_lt_of_cell? w2 _ c1
        clear hd hc L2 hn hbd
        by_cases hlo : kd < 1
        · have HF : Hid ((0 : Int) = F) := Lib.hid (by rw [← hk.out _ hb]; exact (oneOf_out (.inl hlo)).symm)
          clear hk hb
          go_wp2_with fail
          rw [← HQ.out, ← HF.out]
          exact ⟨rfl, B2.out⟩
        · by_cases hhi : 4 < kd
          · have HF : Hid ((0 : Int) = F) := Lib.hid (by rw [← hk.out _ hb]; exact (oneOf_out (.inr hhi)).symm)
            clear hk hb
            go_wp2_with fail
            rw [← HQ.out, ← HF.out]
            exact ⟨rfl, B2.out⟩
          · have HF : Hid (kd = F) := Lib.hid (by rw [← hk.out _ hb]; exact (oneOf_in hlo hhi).symm)
            clear hk hb
            go_wp2_with fail
            rw [← HQ.out, ← HF.out]
            exact ⟨rfl, B2.out⟩
    · have hF := (kb_neg a b c).symm.trans hF
      clear L1 x1
      by_cases a1 : a = 1
      · subst a1
        have HF : Hid ((1 : Int) = F) := Lib.hid hF
        clear hF ha
        go_enter Tryd.func22, Tryd.ntmps22
        go_upto_region 1 with fail
        rw [HW1.out]
        go_wp2_with fail
        rw [← HQ.out, ← HF.out]
        exact ⟨rfl, B1.out⟩
      by_cases a3 : a = 3
      · subst a3
        have HF : Hid ((3 : Int) = F) := Lib.hid hF
        clear hF ha a1
        go_enter Tryd.func22, Tryd.ntmps22
        go_upto_region 1 with fail
        rw [HW1.out]
        go_wp2_with fail
        rw [← HQ.out, ← HF.out]
        exact ⟨rfl, B1.out⟩
      · have HF : Hid ((0 : Int) = F) := Lib.hid (by rw [if_neg (by rintro (h | h); exact a1 h; exact a3 h)] at hF; exact hF)
        have e1 : (a == 1) = false := by rw [beq_eq_false_iff_ne]; exact a1
        have e3 : (a == 3) = false := by rw [beq_eq_false_iff_ne]; exact a3
        clear hF ha a1 a3
        go_enter Tryd.func22, Tryd.ntmps22
        go_upto_region 1 with fail
        rw [HW1.out]
        go_wp2_with fail
        rw [← HQ.out, ← HF.out]
        exact ⟨rfl, B1.out⟩
    · have hF := (kb_if a b c).symm.trans hF
      clear L1 x1
      by_cases a4 : a = 4
      · subst a4
        by_cases hbc : b = c
        · subst hbc
          have HF : Hid (b = F) := Lib.hid (by rw [if_pos ⟨rfl, rfl⟩] at hF; exact hF)
          clear hF ha hb
          go_enter Tryd.func22, Tryd.ntmps22
          go_upto_region 1 with fail
          rw [HW1.out]
          go_wp2_with fail
          rw [← HQ.out, ← HF.out]
          exact ⟨rfl, B1.out⟩
        · have HF : Hid ((0 : Int) = F) := Lib.hid (by rw [if_neg (fun e => hbc e.2)] at hF; exact hF)
          have e1 : (b == c) = false := by rw [beq_eq_false_iff_ne]; exact hbc
          clear hF ha hb hbc
          go_enter Tryd.func22, Tryd.ntmps22
          go_upto_region 1 with fail
          rw [HW1.out]
          go_wp2_with fail
          rw [← HQ.out, ← HF.out]
          exact ⟨rfl, B1.out⟩
      · have HF : Hid ((0 : Int) = F) := Lib.hid (by rw [if_neg (fun e => a4 e.1)] at hF; exact hF)
        have e1 : (a == 4) = false := by rw [beq_eq_false_iff_ne]; exact a4
        clear hF ha hb a4
        go_enter Tryd.func22, Tryd.ntmps22
        go_upto_region 1 with fail
        rw [HW1.out]
        go_wp2_with fail
        rw [← HQ.out, ← HF.out]
        exact ⟨rfl, B1.out⟩
  · have e1 := kb_ne h6 (s := [119, 104, 111, 108, 101]) (by decide); have e2 := kb_ne h6 (s := [97, 109, 111, 117, 110, 116]) (by decide); have e3 := kb_ne h6 (s := [114, 97, 116, 101]) (by decide); have e4 := kb_ne h6 (s := [110, 97, 109, 101]) (by decide)
    have e5 := kb_ne h6 (s := [110, 101, 103]) (by decide); have e6 := kb_ne h6 (s := [105, 102]) (by decide)
    have HF : Hid (findRow a b (tableL op) = F) := Lib.hid (by
      simp only [List.mem_cons, List.not_mem_nil, or_false, not_or] at h6
      obtain ⟨n1, n2, n3, n4, n5, n6⟩ := h6
      rw [PCheck.table_kind ha hb n1 n2 n3 n5 n6, ← hF, ofK_other n4]
      exact (kb_two n6).symm)
    have TT := Lib.hid (table_three op); have TF := table_few op
    have TA := Lib.hid (rtable_any op w1)
    obtain ⟨rows, hrows⟩ : ∃ rows, tableL op = rows := ⟨_, rfl⟩
    rw [hrows] at HF TT TF TA
    have gr : (rows.length : Int) ≤ 5 := by omega
    clear h6 hF ha hb L1 x1 hrows
    go_enter Tryd.func22, Tryd.ntmps22
    go_upto_region 1 with fail
    rw [HW1.out]
    go_wp2_with fail
    refine (TA.out).mono ?_
    rintro _ w2 ⟨T, tc, rfl, ht, b2⟩
    have B2 := Lib.hid (below_step B1.out b2)
    have HT := Lib.hid ht
    clear b2 ht TA x0 hsx HW1 HL1 e1 e2 e3 e4 e5 e6
    go_wp2_with fail
    go_loopw [74] (fun q wx => ∃ k : Nat, k ≤ rows.length ∧ q = .int .i64 k ∧ Hid (findRow a b (rows.drop k) = F) ∧ w2 = wx) (fun q _ => rows.length - (intOf q).toNat)
    case atStart => exact ⟨0, Nat.zero_le _, rfl, HF, rfl⟩
    case round =>
      obtain ⟨k, hk, rfl, I1, rfl⟩ := hrel
      by_cases hkn : k < rows.length
      · have gk : (k : Int) < (rows.length : Int) := by omega
        obtain ⟨p, q, r, hrow⟩ := TT.out rows[k] (List.getElem_mem hkn)
        have hr : rows[k]? = some [p, q, r] := by rw [List.getElem?_eq_getElem hkn, hrow]
        have hdr : rows.drop k = [p, q, r] :: rows.drop (k + 1) := by rw [List.drop_eq_getElem_cons hkn, hrow]
        obtain ⟨tb, rfl, htb⟩ : ∃ b, T = some ⟨b, 0, none⟩ ∧ ∀ i row, rows[i]? = some row → ∃ g c, w2.cell? ⟨b, i, none⟩ = some (.slice (some ⟨g, 0, none⟩) 3 c) ∧ ∀ j z, row[j]? = some z → w2.cell? ⟨g, j, none⟩ = some (.int .i64 z) := by
          rcases HT.out with h | h
          · rw [h] at hkn; cases hkn
          · exact h
        obtain ⟨g, gc, ct, hg⟩ := htb k _ hr
        have d0 : w2.cell? ⟨g, 0, none⟩ = some (.int .i64 p) := hg 0 p rfl
        have d1 : w2.cell? ⟨g, 1, none⟩ = some (.int .i64 q) := hg 1 q rfl
        have d2 : w2.cell? ⟨g, 2, none⟩ = some (.int .i64 r) := hg 2 r rfl
        have s1 := World.block_lt_of_cell? w2 _ ct
        have s2 := World.block_lt_of_cell? w2 _ d0
        have step : findRow a b (rows.drop k) = if p = a ∧ q = b then r else findRow a b (rows.drop (k + 1)) := by rw [hdr]; rfl
        have I1 := step.symm.trans I1.out
        clear hr hdr htb hg hrow step
        by_cases hpa : p = a
        · have f1 : (p == a) = true := by rw [beq_iff_eq]; exact hpa
          by_cases hqb : q = b
          · have f2 : (q == b) = true := by rw [beq_iff_eq]; exact hqb
            have FIN : Hid (r = F) := Lib.hid (by rw [if_pos ⟨hpa, hqb⟩] at I1; exact I1)
            clear I1 hpa hqb
            go_wp2_with fail
            rw [← HQ.out, ← FIN.out]
            exact ⟨rfl, B2.out⟩
          · have f2 : (q == b) = false := by rw [beq_eq_false_iff_ne]; exact hqb
            have FIN : Hid (findRow a b (rows.drop (k + 1)) = F) := Lib.hid (by rw [if_neg (fun e => hqb e.2)] at I1; exact I1)
            clear I1 hpa hqb
            go_wp2_with fail
            exact ⟨⟨k + 1, by omega, by congr 1, FIN, trivial⟩, by simp [intOf]; omega⟩
        · have f1 : (p == a) = false := by rw [beq_eq_false_iff_ne]; exact hpa
          have FIN : Hid (findRow a b (rows.drop (k + 1)) = F) := Lib.hid (by rw [if_neg (fun e => hpa e.1)] at I1; exact I1)
          clear I1 hpa
          go_wp2_with fail
          exact ⟨⟨k + 1, by omega, by congr 1, FIN, trivial⟩, by simp [intOf]; omega⟩
      · obtain rfl : k = rows.length := by omega
        have FIN : Hid ((0 : Int) = F) := Lib.hid (by have h := I1.out; rw [List.drop_length] at h; exact h)
        clear I1
        go_wp2_with fail
        rw [← HQ.out, ← FIN.out]
        exact ⟨rfl, B2.out⟩
end Go.Proofs.YtkmehhhgdeiaeaaDoor
