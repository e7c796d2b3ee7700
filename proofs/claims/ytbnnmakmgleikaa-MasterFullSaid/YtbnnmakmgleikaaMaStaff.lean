/-
  What counts for somebody in a period, and who works in it: what the landed master answers.
-/
import Derived.Test.YtbnnmakmgleikaaMaAt
import Derived.Test.YtbnnmakmgleikaaStepRec
set_option linter.unusedVariables false
set_option linter.unusedSimpArgs false
namespace Go.Proofs.Ytbnnmakmgleikaa
open Go.RowKit

/-- Rows are not too long to be searched. -/
def MaSmall (M : List PMa.Per) : Prop := ∀ p ∈ M, p.recs.length ≤ 80000 ∧ p.ords.length ≤ 80000
theorem find_yes {M : List PMa.Per} {id : Int} (h : PMa.there M id = true) {p : PMa.Per} (hd : M.getD (PMa.place M id) default = p) : PMa.find M id = (p, 0) ∧ ∀ t, PMa.at_ M id t = PMa.perAt p t := by
  unfold PMa.find PMa.at_
  rw [h, hd]
  exact ⟨rfl, fun t => rfl⟩
theorem find_no {M : List PMa.Per} {id : Int} (h : PMa.there M id = false) : PMa.find M id = (⟨0, 0, 0, [], []⟩, 5) ∧ ∀ t, PMa.at_ M id t = (⟨0, 0, 0, 0, 0, 0, false⟩, 5) := by
  unfold PMa.find PMa.at_
  rw [h]
  exact ⟨rfl, fun t => rfl⟩
set_option maxRecDepth 100000 in
set_option maxHeartbeats 6400000 in
theorem kat_any {w : World} {A : Option Addr} {n c : Nat} {M : List PMa.Per} (hM : MaI w A n c M) (hF : PMa.Fine M) (hS : MaSmall M) (hn : n ≤ 90000) (id t : Int) :
    Calls Try.prog 13 #[.agg #[.slice A n c], .int .i64 id, .int .i64 t] w (RcB (PMa.at_ M id t).1 (PMa.at_ M id t).2 w) := by
  obtain ⟨Q, hQ⟩ : ∃ Q, RcB (PMa.at_ M id t).1 (PMa.at_ M id t).2 w = Q := ⟨_, rfl⟩
  rw [hQ]
  have F : Hid (∀ r z, PMa.at_ M id t = (r, z) → ∀ w', Below w.heap.size w w' → Q (.returned (.tuple #[.agg #[.int .i64 r.frm, .int .i64 r.ctr, .int .i64 r.base, .int .i64 r.bonus, .int .i64 r.hours, .int .i64 r.days, .bool r.lead], .int .i64 z])) w') := Lib.hid (fun r z h w' hb => by
    rw [← hQ, h]; exact ⟨rfl, hb⟩)
  obtain ⟨w1, hw1, XB, b1⟩ : ∃ w1, w.alloc (.cells #[.slice A n c] 26) = w1 ∧ Box w1 w.heap.size [.slice A n c] ∧ Below w.heap.size w w1 := ⟨_, rfl, Box.new _ _ [.slice A n c], (Below.refl _ _).alloc (Nat.le_refl _) _⟩
  obtain ⟨w2, hw2, RB, b2⟩ : ∃ w2, w1.alloc (.cells #[.int .i64 0, .int .i64 0, .int .i64 0, .int .i64 0, .int .i64 0, .int .i64 0, .bool false] 47) = w2 ∧ Box w2 w1.heap.size [.int .i64 0, .int .i64 0, .int .i64 0, .int .i64 0, .int .i64 0, .int .i64 0, .bool false] ∧ Below w1.heap.size w1 w2 := ⟨_, rfl, Box.new _ _ [.int .i64 0, .int .i64 0, .int .i64 0, .int .i64 0, .int .i64 0, .int .i64 0, .bool false], (Below.refl _ _).alloc (Nat.le_refl _) _⟩
  have hs1 : w1.heap.size = w.heap.size + 1 := by rw [← hw1]; simp
  rw [hs1] at RB
  have b12 := below_step b1 b2
  have XB2 := XB.on b2
  have y0 : w2.cell? ⟨w.heap.size, 0, none⟩ = some (.slice A n c) := XB2.c 0 rfl
  have hsx := XB2.1
  have CF := kfind_any (hM.on b12) hF hn id
  have HR := Lib.hid RB; have B2 := Lib.hid b12
  have HW1 := Lib.hid hw1; have HW2 := Lib.hid hw2
  have hbase : w.heap.size ≤ w.heap.size + 1 := Nat.le_succ _
  cases ht : PMa.there M id with
  | false =>
    obtain ⟨e1, e2⟩ := find_no ht
    rw [e1] at CF
    have CF := Lib.hid CF
    have FN := Lib.hid (F.out _ _ (e2 t))
    clear hQ hw1 hw2 XB RB XB2 b1 b2 b12 hs1 ht hM F e1 e2
    go_enter Try.func13, Try.ntmps13
    go_upto_region 1 with fail
    rw [HW1.out, HW2.out]
    clear HW1 HW2
    go_wp2_with (go_at_call 14; refine CF.out.mono ?_)
    intro e3 w3 h3
    obtain ⟨⟨ri, rh, rg, rA, rn, rc, rB, rm, rd⟩, rfl, hk, b3'⟩ := h3
    dsimp only
    obtain ⟨w4, hw4, PB, b4⟩ : ∃ w4, w3.alloc (.cells #[.int .i64 0, .int .i64 0, .int .i64 0, .slice none 0 0, .slice none 0 0] 53) = w4 ∧ Box w4 w3.heap.size [.int .i64 0, .int .i64 0, .int .i64 0, .slice none 0 0, .slice none 0 0] ∧ Below w3.heap.size w3 w4 := ⟨_, rfl, Box.new _ _ [.int .i64 0, .int .i64 0, .int .i64 0, .slice none 0 0, .slice none 0 0], (Below.refl _ _).alloc (Nat.le_refl _) _⟩
    obtain ⟨w5, hw5, PB5, ON5⟩ := set5 PB (.int .i64 ri) (.int .i64 rh) (.int .i64 rg) (.slice rA rn rc) (.slice rB rm rd)
    obtain ⟨p0, p1, p2, p3, p4⟩ := box5 PB
    obtain ⟨pf0, pf1, pf2, pf3, pf4⟩ := box5f PB
    have hsp := PB.1
    have b5 := below_step b3' (ON5.below (Nat.le_refl _) b4)
    have R5 := HR.out.on b5
    have B5 := Lib.hid (below_step B2.out b5)
    have HW5 := Lib.hid hw5
    obtain ⟨r0, r1, r2, r3, r4, r5, r6⟩ := box7 R5
    obtain ⟨rf0, rf1, rf2, rf3, rf4, rf5, rf6⟩ := box7f' R5
    have hsr := R5.1
    obtain ⟨w6, hw6, R6, ON6⟩ := store7 R5 (.int .i64 0) (.int .i64 0) (.int .i64 0) (.int .i64 0) (.int .i64 0) (.int .i64 0) (.bool false)
    have B6 := Lib.hid (ON6.below hbase B5.out)
    obtain ⟨k0, k1, k2, k3, k4, k5, k6⟩ := box7 R6
    have hkk := R6.1
    have HW6 := Lib.hid hw6
    clear hk b3' CF PB PB5 ON5 b4 b5 hw5 R5 R6 ON6 hw6 y0 hsx
    go_upto_region 2 with fail
    rw [HW5.out]
    clear HW5 hw4 p0 p1 p2 p3 p4 pf0 pf1 pf2 pf3 pf4 hsp
    go_wp2_with fail
    rw [HW6.out]
    clear r0 r1 r2 r3 r4 r5 r6 rf0 rf1 rf2 rf3 rf4 rf5 rf6 hsr
    refine bodyPost_ret (by simp [results, Try.results13, go_sem, k0, k1, k2, k3, k4, k5, k6]; try rfl) rfl ?_
    exact FN.out _ B6.out
  | true =>
    obtain ⟨p, hp, hid, hd⟩ := place_at ht
    obtain ⟨e1, e2⟩ := find_yes ht hd
    rw [e1] at CF
    have CF := Lib.hid CF
    have hpm : p ∈ M := List.mem_of_getElem? hp
    have HU := Lib.hid (hF.ups p hpm)
    have HSm := Lib.hid (hS p hpm)
    obtain ⟨q, hq⟩ : ∃ q, PMa.perAt p t = q := ⟨_, rfl⟩
    obtain ⟨q, z⟩ := q
    have FN := Lib.hid (F.out q z ((e2 t).trans hq))
    have HQ2 := Lib.hid hq
    clear hQ hw1 hw2 XB RB XB2 b1 b2 b12 hs1 ht hM F e1 e2 hp hid hd hpm hq hF hS
    go_enter Try.func13, Try.ntmps13
    go_upto_region 1 with fail
    rw [HW1.out, HW2.out]
    clear HW1 HW2
    go_wp2_with (go_at_call 14; refine CF.out.mono ?_)
    intro e3 w3 h3
    obtain ⟨⟨ri, rh, rg, rA, rn, rc, rB, rm, rd⟩, rfl, hk, b3'⟩ := h3
    dsimp only
    obtain ⟨w4, hw4, PB, b4⟩ : ∃ w4, w3.alloc (.cells #[.int .i64 0, .int .i64 0, .int .i64 0, .slice none 0 0, .slice none 0 0] 53) = w4 ∧ Box w4 w3.heap.size [.int .i64 0, .int .i64 0, .int .i64 0, .slice none 0 0, .slice none 0 0] ∧ Below w3.heap.size w3 w4 := ⟨_, rfl, Box.new _ _ [.int .i64 0, .int .i64 0, .int .i64 0, .slice none 0 0, .slice none 0 0], (Below.refl _ _).alloc (Nat.le_refl _) _⟩
    obtain ⟨w5, hw5, PB5, ON5⟩ := set5 PB (.int .i64 ri) (.int .i64 rh) (.int .i64 rg) (.slice rA rn rc) (.slice rB rm rd)
    obtain ⟨p0, p1, p2, p3, p4⟩ := box5 PB
    obtain ⟨pf0, pf1, pf2, pf3, pf4⟩ := box5f PB
    have hsp := PB.1
    have b35 := ON5.below (Nat.le_refl _) b4
    have b5 := below_step b3' b35
    have B5 := Lib.hid (below_step B2.out b5)
    have HW5 := Lib.hid hw5
    have hk5 := hk.on b35
    have CA := kperat_any hk5 HU.out (by have h1 := hk.recs.1; have h2 := HSm.out.1; show rn ≤ 1000000; have h3 : p.recs.length = rn := h1; omega) t
    rw [HQ2.out] at CA
    have CA := Lib.hid CA
    obtain ⟨x0, x1, x2, x3, x4⟩ := box5 PB5
    have hsx5 := PB5.1
    have HR5 := Lib.hid (HR.out.on b5)
    clear hk b3' CF PB PB5 ON5 b4 b5 b35 hw5 hk5 y0 hsx
    dsimp only at CA
    go_upto_region 2 with fail
    rw [HW5.out]
    clear HW5 hw4 p0 p1 p2 p3 p4 pf0 pf1 pf2 pf3 pf4 hsp
    go_wp2_with (go_at_call 21; refine CA.out.mono ?_)
    intro e6 w6 h6
    obtain ⟨rfl, b6⟩ := h6
    have R6 := HR5.out.on b6
    obtain ⟨r0, r1, r2, r3, r4, r5, r6⟩ := box7 R6
    obtain ⟨rf0, rf1, rf2, rf3, rf4, rf5, rf6⟩ := box7f' R6
    have hsr := R6.1
    obtain ⟨w7, hw7, R7, ON7⟩ := store7 R6 (.int .i64 q.frm) (.int .i64 q.ctr) (.int .i64 q.base) (.int .i64 q.bonus) (.int .i64 q.hours) (.int .i64 q.days) (.bool q.lead)
    have B7 := Lib.hid (ON7.below hbase (below_step B5.out b6))
    obtain ⟨k0, k1, k2, k3, k4, k5, k6⟩ := box7 R7
    have hkk := R7.1
    have HW7 := Lib.hid hw7
    clear b6 CA R6 R7 ON7 hw7 x0 x1 x2 x3 x4 hsx5
    go_wp2_with fail
    rw [HW7.out]
    clear r0 r1 r2 r3 r4 r5 r6 rf0 rf1 rf2 rf3 rf4 rf5 rf6 hsr
    refine bodyPost_ret (by simp [results, Try.results13, go_sem, k0, k1, k2, k3, k4, k5, k6]; try rfl) rfl ?_
    exact FN.out _ B7.out
/-- Ints as records of one cell. -/
def intM : Rec Int where
  C z := [.int .i64 z]
  k := 1
  pos := by decide
  len _ := rfl
  one z u h := by simp at h; subst h; rfl
theorem recTyI : RecTy intM 3 30 8 where
  info := ⟨.int .i64 0, by kernel_rfl, by rfl⟩
  under := by kernel_rfl
  few := by decide
/-- A list of ids. -/
def StB (l : List Int) (w : World) (e : Ending) (w' : World) : Prop := ∃ A c, e = .returned (.slice A l.length c) ∧ SlX intM w' A l.length l ∧ (A = none → c = 0) ∧ Below w.heap.size w w'
theorem staff_snoc (l : List PMa.Per) (p : PMa.Per) (t : Int) : PMa.staff (l ++ [p]) t = PMa.staff l t ++ (if (PMa.perAt p t).2 = 0 then [p.id] else []) := by
  unfold PMa.staff
  rw [List.filter_append, List.map_append]
  congr 1
  by_cases h : (PMa.perAt p t).2 = 0
  · simp [List.filter_cons, h]
  · simp [List.filter_cons, h]
theorem staff_len (l : List PMa.Per) (t : Int) : (PMa.staff l t).length ≤ l.length := by
  unfold PMa.staff
  rw [List.length_map]; exact List.length_filter_le _ _
set_option maxRecDepth 100000 in
set_option maxHeartbeats 12800000 in
theorem kstaff_any {w : World} {A : Option Addr} {n c : Nat} {M : List PMa.Per} (hM : MaI w A n c M) (hF : PMa.Fine M) (hS : MaSmall M) (hn : n ≤ 90000) (t : Int) :
    Calls Try.prog 10 #[.agg #[.slice A n c], .int .i64 t] w (StB (PMa.staff M t) w) := by
  obtain ⟨Q, hQ⟩ : ∃ Q, StB (PMa.staff M t) w = Q := ⟨_, rfl⟩
  rw [hQ]
  have F : Hid (∀ A k c w', (PMa.staff M t).length = k → SlX intM w' A k (PMa.staff M t) → (A = none → c = 0) → Below w.heap.size w w' → Q (.returned (.slice A k c)) w') := Lib.hid (fun A k c w' hk h1 h2 hb => by
    subst hk
    rw [← hQ]; exact ⟨A, c, rfl, h1, h2, hb⟩)
  obtain ⟨w1, hw1, XB, b1⟩ : ∃ w1, w.alloc (.cells #[.slice A n c] 26) = w1 ∧ Box w1 w.heap.size [.slice A n c] ∧ Below w.heap.size w w1 := ⟨_, rfl, Box.new _ _ [.slice A n c], (Below.refl _ _).alloc (Nat.le_refl _) _⟩
  have y0 : w1.cell? ⟨w.heap.size, 0, none⟩ = some (.slice A n c) := XB.c 0 rfl
  have hsx := XB.1
  obtain ⟨rs, hR, hO⟩ := (hM.on b1).s
  have hMn : M.length = n := hM.s.len
  have HR := Lib.hid hR; have HO := Lib.hid hO; have HMN := Lib.hid hMn; have HF := Lib.hid hF; have HSm := Lib.hid hS
  have B1 := Lib.hid b1; have HW1 := Lib.hid hw1
  clear hQ hw1 XB b1 hR hO hMn hF hS hM
  go_enter Try.func10, Try.ntmps10
  go_upto_region 1 with fail
  rw [HW1.out]
  clear HW1
  go_wp2_with fail
  clear y0 hsx
  go_loopw [5, 13] (fun s i wr => ∃ (k : Nat) (v : Value), k ≤ n ∧ i = .int .i64 k ∧ s = v ∧ Hid (wr.ownsRow w1.heap.size 3 1 v (PMa.staff (M.take k) t).length (intM.cells (PMa.staff (M.take k) t))) ∧ Hid (Below w1.heap.size w1 wr)) (fun _ i _ => n - (intOf i).toNat)
  case atStart => exact ⟨0, _, Nat.zero_le _, rfl, rfl, Lib.hid (World.ownsRow_nil _ _ _ _), Lib.hid (Below.refl _ _)⟩
  case round =>
    obtain ⟨k, v, hk, rfl, hv, I1, I2⟩ := hrel
    rw [hv]
    clear hv
    by_cases hlt : k < n
    · have gk : (k : Int) < (n : Int) := by omega
      have gk0 : (0 : Int) ≤ (k : Int) := by omega
      obtain ⟨bA, oA, rfl, -⟩ := (HR.out.on I2.out).at hlt
      obtain ⟨r, hr⟩ : ∃ r, rs[k]? = some r := ⟨_, List.getElem?_eq_getElem (by rw [HR.out.1]; exact hlt)⟩
      obtain ⟨p, hp⟩ : ∃ p, M[k]? = some p := ⟨_, List.getElem?_eq_getElem (by rw [HMN.out]; exact hlt)⟩
      obtain ⟨l0, l1, l2, l3, l4⟩ := raw_cell (HR.out.on I2.out) hlt hr
      have hsl := World.block_lt_of_cell? wr _ l0
      have hok := HO.out.at_ k r p hr hp
      have hpm : p ∈ M := List.mem_of_getElem? hp
      have hid := hok.id
      obtain ⟨ri, rh, rg, rA, rn, rc, rB, rm, rd⟩ := r
      dsimp only at l0 l1 l2 l3 l4 hid
      have htk : M.take (k + 1) = M.take k ++ [p] := by rw [List.take_add_one, hp]; rfl
      have hst := staff_snoc (M.take k) p t
      rw [← htk] at hst
      have hsl2 := staff_len (M.take k) t
      rw [List.length_take] at hsl2
      obtain ⟨w3, hw3, PB, b3⟩ : ∃ w3, wr.alloc (.cells #[.int .i64 0, .int .i64 0, .int .i64 0, .slice none 0 0, .slice none 0 0] 53) = w3 ∧ Box w3 wr.heap.size [.int .i64 0, .int .i64 0, .int .i64 0, .slice none 0 0, .slice none 0 0] ∧ Below wr.heap.size wr w3 := ⟨_, rfl, Box.new _ _ [.int .i64 0, .int .i64 0, .int .i64 0, .slice none 0 0, .slice none 0 0], (Below.refl _ _).alloc (Nat.le_refl _) _⟩
      obtain ⟨w4, hw4, P4, ON4⟩ := set5 PB (.int .i64 ri) (.int .i64 rh) (.int .i64 rg) (.slice rA rn rc) (.slice rB rm rd)
      obtain ⟨p0, p1, p2, p3, p4⟩ := box5 PB
      obtain ⟨pf0, pf1, pf2, pf3, pf4⟩ := box5f PB
      have hsp := PB.1
      have b4 := ON4.below (Nat.le_refl _) b3
      obtain ⟨x0, x1, x2, x3, x4⟩ := box5 P4
      have hsx4 := P4.1
      obtain ⟨q, hq⟩ : ∃ q, PMa.perAt p t = q := ⟨_, rfl⟩
      obtain ⟨q, z⟩ := q
      have CA := kperat_any (hok.on (below_step I2.out b4)) (HF.out.ups p hpm) (by have h1 := hok.recs.1; have h2 := (HSm.out p hpm).1; show rn ≤ 1000000; have h3 : p.recs.length = rn := h1; omega) t
      rw [hq] at CA hst
      dsimp only at CA hst
      have CA := Lib.hid CA; have HW4 := Lib.hid hw4; have HP4 := Lib.hid P4; have B4 := Lib.hid b4; have HST := Lib.hid hst; have HID := Lib.hid hid
      have O4 := Lib.hid (own_kept I1.out b4)
      clear hw4 PB P4 ON4 b3 b4 hok hr hp hpm htk hst hq hid I1
      go_upto_region 5 with fail
      rw [HW4.out]
      clear HW4 hw3 p0 p1 p2 p3 p4 pf0 pf1 pf2 pf3 pf4 hsp l0 l1 l2 l3 l4 hsl
      go_wp2_with (go_at_call 21; refine CA.out.mono ?_)
      intro e6 w6 h6
      obtain ⟨rfl, b6⟩ := h6
      obtain ⟨w7, hw7, QB, b7⟩ : ∃ w7, w6.alloc (.cells #[.int .i64 0, .int .i64 0, .int .i64 0, .int .i64 0, .int .i64 0, .int .i64 0, .bool false] 47) = w7 ∧ Box w7 w6.heap.size [.int .i64 0, .int .i64 0, .int .i64 0, .int .i64 0, .int .i64 0, .int .i64 0, .bool false] ∧ Below w6.heap.size w6 w7 := ⟨_, rfl, Box.new _ _ [.int .i64 0, .int .i64 0, .int .i64 0, .int .i64 0, .int .i64 0, .int .i64 0, .bool false], (Below.refl _ _).alloc (Nat.le_refl _) _⟩
      obtain ⟨w8, hw8, Q8, ON8⟩ := store7 QB (.int .i64 q.frm) (.int .i64 q.ctr) (.int .i64 q.base) (.int .i64 q.bonus) (.int .i64 q.hours) (.int .i64 q.days) (.bool q.lead)
      obtain ⟨r0, r1, r2, r3, r4, r5, r6⟩ := box7 QB
      obtain ⟨rf0, rf1, rf2, rf3, rf4, rf5, rf6⟩ := box7f' QB
      have hsr := QB.1
      have b8 := below_step b6 (ON8.below (Nat.le_refl _) b7)
      have O8 := Lib.hid (own_kept O4.out b8)
      have P8 := HP4.out.on b8
      obtain ⟨x0, x1, x2, x3, x4⟩ := box5 P8
      have hsx4 := P8.1
      have b18 := below_step I2.out (below_step B4.out b8)
      have B8 := Lib.hid b18
      have HW8 := Lib.hid hw8
      clear b6 b7 b8 b18 QB Q8 ON8 hw8 P8 CA
      go_upto_region 6 with fail
      rw [HW8.out]
      clear HW8 hw7 r0 r1 r2 r3 r4 r5 r6 rf0 rf1 rf2 rf3 rf4 rf5 rf6 hsr
      by_cases hz : z = 0
      · subst hz
        rw [if_pos rfl] at HST
        have hbs := B8.out.size
        have hn5 : (PMa.staff (M.take k) t).length + 1 ≤ 100000 := by omega
        obtain ⟨ll, hll⟩ : ∃ ll, PMa.staff (M.take k) t = ll := ⟨_, rfl⟩
        rw [hll] at HST O8 hn5
        clear hll
        go_wp2_with (at_builtin; refine append_rec recTyI rfl _ _ rfl w1.heap.size v ll ri (by rfl) O8.out (by rfl) hn5 hbs ?_)
        intro v2 w9 hown hb9
        have O9 : Hid (w9.ownsRow w1.heap.size 3 1 v2 (PMa.staff (M.take (k + 1)) t).length (intM.cells (PMa.staff (M.take (k + 1)) t))) := Lib.hid (by
          rw [HST.out, ← HID.out, List.length_append]; exact hown)
        have B9 := Lib.hid (B8.out.trans hb9)
        clear hown hb9 O8 x0 x1 x2 x3 x4 hsx4
        go_wp2_with fail
        exact ⟨⟨k + 1, _, by omega, by congr 1, rfl, O9, B9⟩, by simp [intOf]; omega⟩
      · have ez : (z == 0) = false := by rw [beq_eq_false_iff_ne]; exact hz
        rw [if_neg hz, List.append_nil] at HST
        have O9 : Hid (w8.ownsRow w1.heap.size 3 1 v (PMa.staff (M.take (k + 1)) t).length (intM.cells (PMa.staff (M.take (k + 1)) t))) := Lib.hid (by
          rw [HST.out]; exact O8.out)
        clear O8
        go_wp2_with fail
        exact ⟨⟨k + 1, _, by omega, by congr 1, rfl, O9, B8⟩, by simp [intOf]; omega⟩
    · obtain rfl : k = n := by omega
      have gk : ¬ (k : Int) < (k : Int) := by omega
      have htk : M.take k = M := List.take_of_length_le (by rw [HMN.out]; exact Nat.le_refl _)
      rw [htk] at I1
      obtain ⟨N, hN⟩ : ∃ N, (PMa.staff M t).length = N := ⟨_, rfl⟩
      rw [hN] at I1
      obtain ⟨A', c', rfl, h1, h2, h3⟩ := slr_of_own (R := intM) I1.out hN
      have FF := Lib.hid (F.out _ _ _ _ hN h3 h1 (below_step B1.out I2.out))
      clear F I1 htk hN h3 h1
      go_wp2_with fail
      exact FF.out
end Go.Proofs.Ytbnnmakmgleikaa
