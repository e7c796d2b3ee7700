/-
  What the landed reader answers: a rule.
-/
import Derived.Test.YtkmehhhgdeiaeaaDoorTreeFactG
namespace PTree
open PLex (Tok)
/-- One rule, behind so many. -/
def rule1 (en cnt : Nat) (ls : List Tok) (j : Nat) : Option (R Rl) :=
  if tx ls j ∉ kinds then some (.bad 2 (pl en ls j))
  else if 59 < cnt then some (.bad 9 (pl en ls j))
  else if kd ls (j + 1) ≠ 1 ∨ tx ls (j + 1) ∈ takenL then some (.bad 2 (pl en ls (j + 1)))
  else R.next (must en [61] (ls.drop (j + 2))) fun t1 _ => R.next (ex en .whole 1 t1) fun t2 x => R.next (must en [59] t2) fun t3 _ => some (.ok t3 ⟨tx ls j, tx ls (j + 1), x⟩)
theorem kinds_wd {u : List UInt8} (h : u ∈ kinds) : Wd u := by
  simp only [kinds, List.mem_cons, List.not_mem_nil, or_false] at h
  rcases h with rfl | rfl | rfl | rfl <;> exact ⟨_, _, rfl, rfl⟩
theorem rules_step {ls : List Tok} (ht : Toks ls) {en cnt j : Nat} (hj : j < ls.length) : rules en cnt (ls.drop j) = R.next (rule1 en cnt ls j) fun t r => R.next (rules en (cnt + 1) t) fun t4 rs => some (.ok t4 (r :: rs)) := by
  have hd : ls.drop j = ls[j] :: ls.drop (j + 1) := List.drop_eq_getElem_cons hj
  have hk : textOf (ls[j] :: ls.drop (j + 1)) ∈ kinds ↔ tx ls j ∈ kinds := by
    rw [← hd]
    refine ⟨fun h => ?_, fun h => ?_⟩
    · rw [(textOf_tx ht j (kinds_wd h)).1 rfl]; exact h
    · rw [(textOf_tx ht j (kinds_wd h)).2 rfl]; exact h
  have hp : pl en ls j = ls[j].at_ := by unfold pl; rw [List.getElem?_eq_getElem hj]
  rw [hd, rules_cons]
  unfold rule1
  rw [hp]
  by_cases h1 : tx ls j ∉ kinds
  · rw [if_pos h1, if_pos (fun k => h1 (hk.1 k))]; rfl
  · rw [if_neg h1, if_neg (fun k => h1 (fun h => k (hk.2 h)))]
    by_cases h2 : 59 < cnt
    · rw [if_pos h2, if_pos h2]; rfl
    · rw [if_neg h2, if_neg h2]
      have htx : textOf (ls[j] :: ls.drop (j + 1)) = tx ls j := by
        rw [← hd]; exact (textOf_tx ht j (kinds_wd (Classical.not_not.1 h1))).2 rfl
      rw [htx]
      by_cases hj1 : j + 1 < ls.length
      · rw [List.drop_eq_getElem_cons hj1]
        have e1 : kd ls (j + 1) = ls[j + 1].kind := kd_pos hj1
        have e2 : tx ls (j + 1) = ls[j + 1].text := tx_at hj1
        have e3 : pl en ls (j + 1) = ls[j + 1].at_ := by unfold pl; rw [List.getElem?_eq_getElem hj1]
        rw [e1, e2, e3]
        simp only []
        by_cases h3 : ls[j + 1].kind ≠ 1 ∨ ls[j + 1].text ∈ takenL
        · rw [if_pos h3, if_pos h3]; rfl
        · rw [if_neg h3, if_neg h3]
          simp only [next_assoc', next_one]
      · have e0 : ls[j + 1]? = none := List.getElem?_eq_none (by omega)
        have e1 : kd ls (j + 1) = 0 := by unfold kd; rw [e0]
        have e3 : pl en ls (j + 1) = en := by unfold pl; rw [e0]
        rw [List.drop_of_length_le (by omega), e1, e3, if_pos (.inl (by decide))]; rfl
end PTree
namespace Go.Proofs.YtkmehhhgdeiaeaaDoor
open Go.RowKit
open PTree (R Ex Tr Md Rl Row tx kd pl rule1)
variable {c : Rc} {w w' : World} {j : Nat} {xs : List Ex}

/-- A rule, in memory. -/
def UAns (c : Rc) (xs : List Ex) (r : Option (R Rl)) (w : World) (e : Ending) (w' : World) : Prop :=
  ∃ (y : Row) (er : Int) (j : Nat) (ys : List Ex), e = .returned (.tuple #[.agg (rowC y).toArray, .int .i64 er]) ∧ Below c.H w w' ∧ Kp c w w' ∧ Rd c w' j ys ∧ match r with
    | none => False
    | some (.bad e q) => er = (e : Nat) ∧ e ≠ 0 ∧ pl c.en c.ls j = q
    | some (.ok ts x) => er = 0 ∧ ts = c.ls.drop j ∧ ys = xs ++ x.tree.flat xs.length ∧ y = ⟨x.kind, x.name, xs.length + x.tree.size - 1⟩
theorem box3f {H : Nat} {a b d : Value} (h : Box w H [a, b, d]) : w.frozen? ⟨H, 0, none⟩ = false ∧ w.frozen? ⟨H, 1, none⟩ = false ∧ w.frozen? ⟨H, 2, none⟩ = false := ⟨h.f 0 rfl, h.f 1 rfl, h.f 2 rfl⟩
/-- All three cells are stored, in a block that no method of the reader writes to: the world behind. -/
theorem store3 {w0 : World} {H : Nat} {a b d : Value} (h : Box w H [a, b, d]) (hf : Fr c w H) (hH : c.H < H) (h0 : w0.heap.size ≤ H) (hk : Kp c w0 w) (hB : Below c.H w0 w) (hR : Rd c w j xs) (a' b' d' : Value) :
    ∃ w', ((w.setCell ⟨H, 0, none⟩ a').setCell ⟨H, 1, none⟩ b').setCell ⟨H, 2, none⟩ d' = w' ∧ Box w' H [a', b', d'] ∧ Kp c w0 w' ∧ Below c.H w0 w' ∧ Rd c w' j xs :=
  ⟨_, rfl, ((h.set 0 (by simp) a').set 1 (by simp) b').set 2 (by simp) d', ((hk.set h0 (Nat.ne_of_gt hH)).set h0 (Nat.ne_of_gt hH)).set h0 (Nat.ne_of_gt hH), ((hB.setCell (Nat.le_of_lt hH) _).setCell (Nat.le_of_lt hH) _).setCell (Nat.le_of_lt hH) _,
    ((hR.set hf hH).set (hf.set (Nat.ne_of_gt hH)) hH).set ((hf.set (Nat.ne_of_gt hH)).set (Nat.ne_of_gt hH)) hH⟩
def zeroR : List Value := [.string ⟨#[]⟩, .string ⟨#[]⟩, .int .i64 0]
theorem rule_enter (h : Rd c w j xs) : ∃ w1, w.alloc (.cells #[.string ⟨#[]⟩, .string ⟨#[]⟩, .int .i64 0] 54) = w1 ∧ Box w1 w.heap.size zeroR ∧ Fr c w1 w.heap.size ∧ c.H < w.heap.size ∧ Kp c w w1 ∧ Below c.H w w1 ∧ Rd c w1 j xs := by
  have b1 : Below w.heap.size w (w.alloc (.cells #[.string ⟨#[]⟩, .string ⟨#[]⟩, .int .i64 0] 54)) := (Below.refl _ _).alloc (Nat.le_refl _) _
  have X1 : Box (w.alloc (.cells #[.string ⟨#[]⟩, .string ⟨#[]⟩, .int .i64 0] 54)) w.heap.size zeroR := Box.new w _ zeroR
  exact ⟨_, rfl, X1, h.fresh (Nat.le_refl _) X1.1 b1, h.lt, Kp.below h.lt b1, b1.mono (Nat.le_of_lt h.lt), h.on b1⟩
set_option maxRecDepth 100000 in
set_option maxHeartbeats 6400000 in
theorem rule_kind {cnt : Nat} (h : Rd c w j xs) (hk : tx c.ls j ∉ PTree.kinds) :
    Calls Tryd.prog 25 #[c.p, .int .i64 cnt] w (UAns c xs (rule1 c.en cnt c.ls j) w) := by
  have hr : rule1 c.en cnt c.ls j = some (.bad 2 (pl c.en c.ls j)) := by unfold rule1; rw [if_pos hk]
  rw [hr]
  obtain ⟨tb, htb⟩ : ∃ b, ({ data := (tx c.ls j).toArray } : ByteArray) = b := ⟨_, rfl⟩
  have HK := Lib.hid (fun w => isrk_any tb w)
  rw [show tb.data.toList = tx c.ls j by rw [← htb], decide_eq_false hk] at HK
  obtain ⟨w1, hw1, X1, F1, hH, k1, b1, R1⟩ := rule_enter h
  obtain ⟨o, n, cp, V, _, _, _, hn0, _, hb, t0, t1, t2⟩ := R1.see
  obtain ⟨c0, c1⟩ := box2 hb
  have hsz := hb.1
  have hz := World.block_lt_of_cell? w1 _ t1
  rw [htb] at t1
  obtain ⟨w2, hw2, X2, k2, b2, R2⟩ := store3 X1 F1 hH (Nat.le_refl _) k1 b1 R1 (.string ⟨#[]⟩) (.string ⟨#[]⟩) (.int .i64 0)
  unfold zeroR at X1
  obtain ⟨e0, e1, e2⟩ := box3 X1
  obtain ⟨f0, f1, f2⟩ := box3f X1
  obtain ⟨q0, q1, q2⟩ := box3 X2
  rw [← hw2] at q0 q1 q2
  have hs1 := X1.1
  have HW2 := Lib.hid hw2; have K2 := Lib.hid k2; have B2 := Lib.hid b2; have R2 := Lib.hid R2
  clear hw2 k2 b2 X2 X1 F1 k1 b1 R1 hb htb hk hr h
  unfold Rc.p
  go_enter Tryd.func25, Tryd.ntmps25
  go_upto_region 1 with fail
  clear hw1
  go_wp2_with fail
  refine (HK.out _).mono ?_
  rintro _ _ ⟨rfl, rfl⟩
  go_wp2_with fail
  (try simp only [Exit.inBlock, Exit.then])
  refine bodyPost_ret (by simp [results, Tryd.results25, go_sem, q0, q1, q2]; try rfl) rfl ?_
  rw [HW2.out]
  exact ⟨⟨[], [], 0⟩, 2, j, xs, rfl, B2.out, K2.out, R2.out, rfl, by decide, rfl⟩
set_option maxRecDepth 100000 in
set_option maxHeartbeats 6400000 in
theorem rule_many {cnt : Nat} (h : Rd c w j xs) (hk : tx c.ls j ∈ PTree.kinds) (hc : 59 < cnt) (hc2 : cnt ≤ 100000) :
    Calls Tryd.prog 25 #[c.p, .int .i64 cnt] w (UAns c xs (rule1 c.en cnt c.ls j) w) := by
  have hr : rule1 c.en cnt c.ls j = some (.bad 9 (pl c.en c.ls j)) := by unfold rule1; rw [if_neg (fun k => k hk), if_pos hc]
  obtain ⟨Q, hQ⟩ : ∃ Q, UAns c xs (rule1 c.en cnt c.ls j) w = Q := ⟨_, rfl⟩
  rw [hQ]
  have HQ := Lib.hid hQ; have HR := Lib.hid hr
  obtain ⟨tb, htb⟩ : ∃ b, ({ data := (tx c.ls j).toArray } : ByteArray) = b := ⟨_, rfl⟩
  have HK := Lib.hid (fun w => isrk_any tb w)
  rw [show tb.data.toList = tx c.ls j by rw [← htb], decide_eq_true hk] at HK
  obtain ⟨w1, hw1, X1, F1, hH, k1, b1, R1⟩ := rule_enter h
  obtain ⟨P, hP⟩ : ∃ P, w.heap.size = P := ⟨_, rfl⟩
  rw [hP] at X1 F1 hH
  have HH := Lib.hid hH; have HPW := Lib.hid hP
  obtain ⟨o, n, cp, V, _, _, _, hn0, _, hb, t0, t1, t2⟩ := R1.see
  obtain ⟨c0, c1⟩ := box2 hb
  have hsz := hb.1
  have hz := World.block_lt_of_cell? w1 _ t1
  rw [htb] at t1
  unfold zeroR at X1
  have gc : (60 : Int) ≤ (cnt : Int) := by omega
  obtain ⟨wz, hwz, XZ, kz, bz, RZ⟩ := store3 X1 F1 HH.out (Nat.le_of_eq HPW.out) k1 b1 R1 (.string ⟨#[]⟩) (.string ⟨#[]⟩) (.int .i64 0)
  obtain ⟨e0, e1, e2⟩ := box3 X1
  obtain ⟨f0, f1, f2⟩ := box3f X1
  obtain ⟨q0, q1, q2⟩ := box3 XZ
  rw [← hwz] at q0 q1 q2
  have hsP := (X1).1
  have HWZ := Lib.hid hwz; have KZ := Lib.hid kz; have BZ := Lib.hid bz; have RZ := Lib.hid RZ
  clear hwz kz bz XZ
  clear X1 F1 k1 b1 R1 hb htb hk hr h hQ hc hH
  unfold Rc.p
  go_enter Tryd.func25, Tryd.ntmps25
  go_upto_region 1 with fail
  (try rw [hP])
  clear hw1 hP
  go_wp2_with fail
  refine (HK.out _).mono ?_
  rintro _ _ ⟨rfl, rfl⟩
  go_wp2_with fail
  (try simp only [Exit.inBlock, Exit.then])
  refine bodyPost_ret (by simp [results, Tryd.results25, go_sem, q0, q1, q2]; try rfl) rfl ?_
  rw [HWZ.out, ← HQ.out, HR.out]
  exact ⟨⟨[], [], 0⟩, 9, j, _, rfl, BZ.out, KZ.out, RZ.out, rfl, by decide, rfl⟩
set_option maxRecDepth 100000 in
set_option maxHeartbeats 6400000 in
theorem rule_rest {cnt : Nat} (ht : PTree.Toks c.ls) (h : Rd c w j xs) (hk : tx c.ls j ∈ PTree.kinds) (hc : cnt ≤ 59) (hB : xs.length + (c.ls.length - j) ≤ 5000) :
    Calls Tryd.prog 25 #[c.p, .int .i64 cnt] w (UAns c xs (rule1 c.en cnt c.ls j) w) := by
  obtain ⟨F, hF⟩ : ∃ F, rule1 c.en cnt c.ls j = F := ⟨_, rfl⟩
  rw [hF]
  unfold rule1 at hF
  rw [if_neg (fun k => k hk), if_neg (by omega)] at hF
  obtain ⟨Q, hQ⟩ : ∃ Q, UAns c xs F w = Q := ⟨_, rfl⟩
  rw [hQ]
  have HQ := Lib.hid hQ
  obtain ⟨tb, htb⟩ : ∃ b, ({ data := (tx c.ls j).toArray } : ByteArray) = b := ⟨_, rfl⟩
  have HK := Lib.hid (fun w => isrk_any tb w)
  rw [show tb.data.toList = tx c.ls j by rw [← htb], decide_eq_true hk] at HK
  have hjl := PTree.tx_pos (PTree.kinds_wd hk).ne
  obtain ⟨w1, hw1, X1, F1, hH, k1, b1, R1⟩ := rule_enter h
  obtain ⟨P, hP⟩ : ∃ P, w.heap.size = P := ⟨_, rfl⟩
  rw [hP] at X1 F1 hH
  have HH := Lib.hid hH; have HPW := Lib.hid hP
  obtain ⟨o, n, cp, V, _, _, _, hn0, _, hb, t0, t1, t2⟩ := R1.see
  obtain ⟨c0, c1⟩ := box2 hb
  have hsz := hb.1
  have hz := World.block_lt_of_cell? w1 _ t1
  rw [htb] at t1
  unfold zeroR at X1
  have gc : ¬ (60 : Int) ≤ (cnt : Int) := by omega
  have HS := skip_any R1 hjl
  unfold Rc.p at *
  have HS := Lib.hid HS
  have X1 := Lib.hid X1; have F1 := Lib.hid F1; have K1 := Lib.hid k1; have B1 := Lib.hid b1
  have HJ := Lib.hid hjl; have HB := Lib.hid hB; have HT := Lib.hid ht; have HTB := Lib.hid htb; have HF := Lib.hid hF
  clear k1 b1 R1 hb htb hk h hQ hc hH hjl hB ht hF
  go_enter Tryd.func25, Tryd.ntmps25
  go_upto_region 1 with fail
  (try rw [hP])
  clear hw1 hP
  go_wp2_with fail
  refine (HK.out _).mono ?_
  rintro _ _ ⟨rfl, rfl⟩
  go_wp2_with fail
  refine HS.out.mono ?_
  rintro _ w2 ⟨rfl, R2, b2, k2⟩
  have X2 := Lib.hid (X1.out.kp F1.out k2); have F2 := Lib.hid (k2 _ F1.out).1
  have K2 := Lib.hid (K1.out.trans k2); have B2 := Lib.hid (B1.out.trans b2)
  clear HS HK c0 c1 t0 t1 t2 hsz hz k2 b2 X1 F1 K1 B1 hn0
  obtain ⟨nb, hnb⟩ : ∃ b, ({ data := (tx c.ls (j + 1)).toArray } : ByteArray) = b := ⟨_, rfl⟩
  have hnl : nb.data.toList = tx c.ls (j + 1) := by rw [← hnb]
  obtain ⟨o, n, cp, V, _, _, _, hn0, _, hb, t0, t1, t2⟩ := R2.see
  obtain ⟨c0, c1⟩ := box2 hb
  have hsz := hb.1
  have hz := World.block_lt_of_cell? w2 _ t1
  rw [hnb] at t1
  have HN := Lib.hid (fun (p : Int) w => isname_any (kd c.ls (j + 1)) nb p w)
  rw [hnl] at HN
  obtain ⟨kk, hkk⟩ : ∃ k : Int, ((kd c.ls (j + 1) : Nat) : Int) = k := ⟨_, rfl⟩
  obtain ⟨pp, hpp⟩ : ∃ k : Int, ((pl c.en c.ls (j + 1) : Nat) : Int) = k := ⟨_, rfl⟩
  rw [hkk] at t0 HN; rw [hpp] at t2
  obtain ⟨w3, hw3, MB, b3⟩ : ∃ w3, w2.alloc (.cells #[.int .i64 kk, .string nb, .int .i64 pp] 75) = w3 ∧ Box w3 w2.heap.size [.int .i64 kk, .string nb, .int .i64 pp] ∧ Below w2.heap.size w2 w3 := ⟨_, rfl, Box.new _ _ [.int .i64 kk, .string nb, .int .i64 pp], (Below.refl _ _).alloc (Nat.le_refl _) _⟩
  have FM := R2.fresh (Nat.le_refl _) MB.1 b3
  have R3 := R2.on b3
  have k3 := Kp.below R2.lt b3
  have X3 := Lib.hid (X2.out.kp F2.out k3); have F3 := Lib.hid (k3 _ F2.out).1
  have K3 := Lib.hid (K2.out.trans k3); have B3 := Lib.hid (B2.out.trans (b3.mono (Nat.le_of_lt R2.lt)))
  obtain ⟨M, hM⟩ : ∃ M, w2.heap.size = M := ⟨_, rfl⟩
  rw [hM] at MB FM
  obtain ⟨m0, m1, m2⟩ := box3 MB
  have hms := MB.1
  have HM2 := Lib.hid (show P < M by have := X2.out.1; omega)
  clear hb R2 b3 k3 X2 F2 K2 B2
  go_upto_region 8 with fail
  (try rw [hM])
  clear hw3 hM c0 c1 t0 t1 t2 hsz hz hn0
  by_cases hnm : kd c.ls (j + 1) ≠ 1 ∨ tx c.ls (j + 1) ∈ PTree.takenL
  · rw [decide_eq_false (fun k => hnm.elim (fun a => a k.1) (fun a => k.2 a))] at HN
    have hFF := HF.out
    rw [if_pos hnm] at hFF
    have HR := Lib.hid hFF.symm
    have hXX := X3.out; have hF3 := F3.out; have hK3 := K3.out; have hB3 := B3.out
    have HN2 := Lib.hid (HN.out pp)
    go_wp2_with fail
    refine (HN2.out _).mono ?_
    rintro _ w4 ⟨rfl, b4⟩
    have hR4 := R3.on b4
    have k4 := Kp.below R3.lt b4
    have hX4 := hXX.kp hF3 k4; have hF4 := (k4 _ hF3).1
    have hK4 := hK3.trans k4; have hB4 := hB3.trans (b4.mono (Nat.le_of_lt R3.lt))
    obtain ⟨wz, hwz, XZ, kz, bz, RZ⟩ := store3 hX4 hF4 HH.out (Nat.le_of_eq HPW.out) hK4 hB4 hR4 (.string ⟨#[]⟩) (.string ⟨#[]⟩) (.int .i64 0)
    obtain ⟨e0, e1, e2⟩ := box3 hX4
    obtain ⟨f0, f1, f2⟩ := box3f hX4
    obtain ⟨q0, q1, q2⟩ := box3 XZ
    rw [← hwz] at q0 q1 q2
    have hsP := (hX4).1
    have HWZ := Lib.hid hwz; have KZ := Lib.hid kz; have BZ := Lib.hid bz; have RZ := Lib.hid RZ
    clear hwz kz bz XZ
    clear hR4 k4 hX4 hF4 hK4 hB4 hXX hF3 hK3 hB3 hFF hnm b4 R3 MB FM HN HN2 m0 m1 m2 hms
    go_wp2_with fail
    (try simp only [Exit.inBlock, Exit.then])
    refine bodyPost_ret (by simp [results, Tryd.results25, go_sem, q0, q1, q2]; try rfl) rfl ?_
    rw [HWZ.out, ← HQ.out, HR.out]
    exact ⟨⟨[], [], 0⟩, 2, j + 1, _, rfl, BZ.out, KZ.out, RZ.out, rfl, by decide, rfl⟩
  · rw [decide_eq_true (show kd c.ls (j + 1) = 1 ∧ tx c.ls (j + 1) ∉ PTree.takenL from ⟨Classical.not_not.1 (fun k => hnm (.inl k)), fun k => hnm (.inr k)⟩)] at HN
    have hFF := HF.out
    rw [if_neg hnm] at hFF
    have hj1 : j + 1 < c.ls.length := by
      by_cases hj : j + 1 < c.ls.length
      · exact hj
      · exact absurd (.inl (by unfold PTree.kd; rw [List.getElem?_eq_none (by omega)]; decide)) hnm
    have HN2 := Lib.hid (HN.out pp)
    have FM := Lib.hid FM; have MB := Lib.hid MB
    have R3 := Lib.hid R3
    clear hnm HN HF
    go_wp2_with fail
    refine (HN2.out _).mono ?_
    rintro _ w4 ⟨rfl, b4⟩
    have R4 := R3.out.on b4
    have k4 := Kp.below R3.out.lt b4
    have X4 := Lib.hid (X3.out.kp F3.out k4); have F4 := Lib.hid (k4 _ F3.out).1
    have M4 := Lib.hid (MB.out.kp FM.out k4); have G4 := Lib.hid (k4 _ FM.out).1
    have K4 := Lib.hid (K3.out.trans k4); have B4 := Lib.hid (B3.out.trans (b4.mono (Nat.le_of_lt R3.out.lt)))
    have HS := skip_any R4 hj1
    unfold Rc.p at HS
    have HS := Lib.hid HS
    have HJ1 := Lib.hid hj1
    clear R4 k4 b4 X3 F3 K3 B3 R3 MB FM HN2 m0 m1 m2 hms hj1
    go_wp2_with fail
    refine HS.out.mono ?_
    rintro _ w5 ⟨rfl, R5, b5, k5⟩
    have X5 := Lib.hid (X4.out.kp F4.out k5); have F5 := Lib.hid (k5 _ F4.out).1
    have M5 := Lib.hid (M4.out.kp G4.out k5); have G5 := Lib.hid (k5 _ G4.out).1
    have K5 := Lib.hid (K4.out.trans k5); have B5 := Lib.hid (B4.out.trans b5)
    clear HS b5 k5 X4 F4 M4 G4 K4 B4
    have wd61 : PTree.Wd [61] := ⟨_, _, rfl, rfl⟩
    by_cases h61 : tx c.ls (j + 2) = [61]
    · have HTK := take_yes (u := ⟨#[61]⟩) R5 (by decide) h61
      rw [PTree.must_yes HT.out wd61 h61] at hFF
      replace hFF : (R.next (PTree.ex c.en .whole 1 (c.ls.drop (j + 3))) fun t2 x => R.next (PTree.must c.en [59] t2) fun t3 _ => some (R.ok t3 (⟨tx c.ls j, tx c.ls (j + 1), x⟩ : Rl))) = F := hFF
      unfold Rc.p at HTK
      have HTK := Lib.hid HTK; have HF := Lib.hid hFF
      clear R5 h61 wd61 hFF
      go_wp2_with fail
      refine HTK.out.mono ?_
      rintro _ w6 ⟨rfl, R6, b6, k6⟩
      have X6 := Lib.hid (X5.out.kp F5.out k6); have F6 := Lib.hid (k6 _ F5.out).1
      have M6 := Lib.hid (M5.out.kp G5.out k6); have G6 := Lib.hid (k6 _ G5.out).1
      have K6 := Lib.hid (K5.out.trans k6); have B6 := Lib.hid (B5.out.trans b6)
      have HE := expr_any HT.out (d := 1) (by decide) R6 (by have := HB.out; have := HJ.out; omega)
      unfold Rc.p at HE
      have HE := Lib.hid HE
      have HJ3 := Lib.hid R6.le
      clear HTK R6 b6 k6 X5 F5 M5 G5 K5 B5
      go_wp2_with fail
      refine HE.out.mono ?_
      rintro _ w7 ⟨a, er, rfl, st, b7, k7⟩
      have X7 := Lib.hid (X6.out.kp F6.out k7); have F7 := Lib.hid (k7 _ F6.out).1
      have M7 := Lib.hid (M6.out.kp G6.out k7); have G7 := Lib.hid (k7 _ G6.out).1
      have K7 := Lib.hid (K6.out.trans k7); have B7 := Lib.hid (B6.out.trans b7)
      clear HE b7 k7 X6 F6 M6 G6 K6 B6
      rcases st.split with ⟨he, _⟩ | ⟨rfl, j7, t, hr, R7, rfl⟩
      · obtain ⟨j7, ys, e, q, R7, g1, g2, g3, g4⟩ := rst_fwd st he (fun t2 x => R.next (PTree.must c.en [59] t2) fun t3 _ => some (R.ok t3 (⟨tx c.ls j, tx c.ls (j + 1), x⟩ : Rl)))
        rw [HF.out] at g1
        have e1 : (er != 0) = true := by rw [bne_iff_ne]; exact he
        have HR := Lib.hid g1
        have GG := Lib.hid (And.intro g2 (And.intro g3 g4))
        have hX7 := X7.out
        obtain ⟨wz, hwz, XZ, kz, bz, RZ⟩ := store3 hX7 F7.out HH.out (Nat.le_of_eq HPW.out) K7.out B7.out R7 (.string ⟨#[]⟩) (.string ⟨#[]⟩) (.int .i64 0)
        obtain ⟨e0, e1, e2⟩ := box3 hX7
        obtain ⟨f0, f1, f2⟩ := box3f hX7
        obtain ⟨q0, q1, q2⟩ := box3 XZ
        rw [← hwz] at q0 q1 q2
        have hsP := (hX7).1
        have HWZ := Lib.hid hwz; have KZ := Lib.hid kz; have BZ := Lib.hid bz; have RZ := Lib.hid RZ
        clear hwz kz bz XZ
        clear st he R7 g1 g2 g3 g4 hX7 X7 F7 M7 G7 K7 B7
        go_wp2_with fail
        (try simp only [Exit.inBlock, Exit.then])
        refine bodyPost_ret (by simp [results, Tryd.results25, go_sem, q0, q1, q2]; try rfl) rfl ?_
        rw [HWZ.out, ← HQ.out, HR.out]
        exact ⟨⟨[], [], 0⟩, er, j7, _, rfl, BZ.out, KZ.out, RZ.out, GG.out⟩
      · have hlen := HJ3.out
        have hFF := HF.out
        rw [hr] at hFF
        replace hFF : (R.next (PTree.must c.en [59] (c.ls.drop j7)) fun t3 _ => some (R.ok t3 (⟨tx c.ls j, tx c.ls (j + 1), t⟩ : Rl))) = F := hFF
        have wd59 : PTree.Wd [59] := ⟨_, _, rfl, rfl⟩
        obtain ⟨A, hA⟩ : ∃ A : Nat, (xs.length + t.size - 1 : Nat) = A := ⟨_, rfl⟩
        rw [hA]
        by_cases h59 : tx c.ls j7 = [59]
        · have HTK := take_yes (u := ⟨#[59]⟩) R7 (by decide) h59
          rw [PTree.must_yes HT.out wd59 h59] at hFF
          have HR : Hid (F = some (R.ok (c.ls.drop (j7 + 1)) (⟨tx c.ls j, tx c.ls (j + 1), t⟩ : Rl))) := Lib.hid hFF.symm
          unfold Rc.p at HTK
          have HTK := Lib.hid HTK; have HA := Lib.hid hA
          clear R7 h59 wd59 hFF st hr hA hlen
          go_wp2_with fail
          refine HTK.out.mono ?_
          rintro _ w8 ⟨rfl, R8, b8, k8⟩
          have hX8 := X7.out.kp F7.out k8; have F8 := Lib.hid (k8 _ F7.out).1
          have M8 := M7.out.kp G7.out k8
          have K8 := Lib.hid (K7.out.trans k8); have B8 := Lib.hid (B7.out.trans b8)
          obtain ⟨m0, m1, m2⟩ := box3 M8
          have hms := M8.1
          obtain ⟨wz, hwz, XZ, kz, bz, RZ⟩ := store3 hX8 F8.out HH.out (Nat.le_of_eq HPW.out) K8.out B8.out R8 (.string tb) (.string nb) (.int .i64 A)
          obtain ⟨e0, e1, e2⟩ := box3 hX8
          obtain ⟨f0, f1, f2⟩ := box3f hX8
          obtain ⟨q0, q1, q2⟩ := box3 XZ
          rw [← hwz] at q0 q1 q2
          have hsP := (hX8).1
          have HWZ := Lib.hid hwz; have KZ := Lib.hid kz; have BZ := Lib.hid bz; have RZ := Lib.hid RZ
          clear hwz kz bz XZ
          have HNB := Lib.hid hnb
          clear R8 b8 k8 hX8 X7 F7 M7 G7 K7 B7 M8 HTK F8 K8 B8 hnb hnl hkk hpp
          go_wp2_with fail
          (try simp only [Exit.inBlock, Exit.then])
          refine bodyPost_ret (by simp [results, Tryd.results25, go_sem, q0, q1, q2]; try rfl) rfl ?_
          rw [HWZ.out, ← HQ.out, HR.out]
          refine ⟨⟨tx c.ls j, tx c.ls (j + 1), A⟩, 0, j7 + 1, _, ?_, BZ.out, KZ.out, RZ.out, rfl, rfl, rfl, by rw [← HA.out]⟩
          unfold rowC
          rw [HTB.out, HNB.out]
        · have HTK := take_no (u := ⟨#[59]⟩) R7 h59
          rw [PTree.must_no HT.out wd59 h59] at hFF
          have HR : Hid (F = some (R.bad 2 (pl c.en c.ls j7))) := Lib.hid hFF.symm
          unfold Rc.p at HTK
          have HTK := Lib.hid HTK
          have hX7 := X7.out
          obtain ⟨wz, hwz, XZ, kz, bz, RZ⟩ := store3 hX7 F7.out HH.out (Nat.le_of_eq HPW.out) K7.out B7.out R7 (.string ⟨#[]⟩) (.string ⟨#[]⟩) (.int .i64 0)
          obtain ⟨e0, e1, e2⟩ := box3 hX7
          obtain ⟨f0, f1, f2⟩ := box3f hX7
          obtain ⟨q0, q1, q2⟩ := box3 XZ
          rw [← hwz] at q0 q1 q2
          have hsP := (hX7).1
          have HWZ := Lib.hid hwz; have KZ := Lib.hid kz; have BZ := Lib.hid bz; have RZ := Lib.hid RZ
          clear hwz kz bz XZ
          clear R7 h59 wd59 hFF st hr hA hX7 X7 F7 M7 G7 K7 B7 hlen
          go_wp2_with fail
          refine HTK.out.mono ?_
          rintro _ _ ⟨rfl, rfl⟩
          go_wp2_with fail
          (try simp only [Exit.inBlock, Exit.then])
          refine bodyPost_ret (by simp [results, Tryd.results25, go_sem, q0, q1, q2]; try rfl) rfl ?_
          rw [HWZ.out, ← HQ.out, HR.out]
          exact ⟨⟨[], [], 0⟩, 2, j7, _, rfl, BZ.out, KZ.out, RZ.out, rfl, by decide, rfl⟩
    · have HTK := take_no (u := ⟨#[61]⟩) R5 h61
      rw [PTree.must_no HT.out wd61 h61] at hFF
      have HR : Hid (F = some (R.bad 2 (pl c.en c.ls (j + 2)))) := Lib.hid hFF.symm
      unfold Rc.p at HTK
      have HTK := Lib.hid HTK
      have hX5 := X5.out
      obtain ⟨wz, hwz, XZ, kz, bz, RZ⟩ := store3 hX5 F5.out HH.out (Nat.le_of_eq HPW.out) K5.out B5.out R5 (.string ⟨#[]⟩) (.string ⟨#[]⟩) (.int .i64 0)
      obtain ⟨e0, e1, e2⟩ := box3 hX5
      obtain ⟨f0, f1, f2⟩ := box3f hX5
      obtain ⟨q0, q1, q2⟩ := box3 XZ
      rw [← hwz] at q0 q1 q2
      have hsP := (hX5).1
      have HWZ := Lib.hid hwz; have KZ := Lib.hid kz; have BZ := Lib.hid bz; have RZ := Lib.hid RZ
      clear hwz kz bz XZ
      clear R5 h61 wd61 hFF hX5 X5 F5 M5 G5 K5 B5
      go_wp2_with fail
      refine HTK.out.mono ?_
      rintro _ _ ⟨rfl, rfl⟩
      go_wp2_with fail
      (try simp only [Exit.inBlock, Exit.then])
      refine bodyPost_ret (by simp [results, Tryd.results25, go_sem, q0, q1, q2]; try rfl) rfl ?_
      rw [HWZ.out, ← HQ.out, HR.out]
      exact ⟨⟨[], [], 0⟩, 2, j + 2, _, rfl, BZ.out, KZ.out, RZ.out, rfl, by decide, rfl⟩
end Go.Proofs.YtkmehhhgdeiaeaaDoor
