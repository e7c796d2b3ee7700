/-
  Who somebody is, and what counts for them in a period: what the landed master answers.
-/
import Derived.Test.YtbnnmakmgleikaaMaPlace
import Derived.Test.YtbnnmakmgleikaaMaUpTo
import Derived.Deep.DeepCutAuto
set_option linter.unusedVariables false
set_option linter.unusedSimpArgs false
namespace Go.Proofs.Ytbnnmakmgleikaa
open Go.RowKit

/-- A master as it comes in and goes out. -/
structure MaI (w : World) (A : Option Addr) (n c : Nat) (M : List PMa.Per) : Prop where
  s : MaS w A n M
  a0 : A = none → c = 0
  nc : n ≤ c
  cm : c ≤ maxLen
theorem MaI.on {w w' : World} {A : Option Addr} {n c : Nat} {M : List PMa.Per} (h : MaI w A n c M) (hb : Below w.heap.size w w') : MaI w' A n c M := ⟨h.s.on hb, h.a0, h.nc, h.cm⟩
theorem maI_nil (w : World) : MaI w none 0 0 [] := ⟨maS_nil w, fun _ => rfl, Nat.le_refl _, Nat.zero_le _⟩
/-- A person that is told; a record that is told. -/
def FiB (p : PMa.Per) (z : Int) (w : World) (e : Ending) (w' : World) : Prop := ∃ r : Raw, e = .returned (.tuple #[.agg #[.int .i64 r.id, .int .i64 r.hired, .int .i64 r.gone, .slice r.A r.n r.c, .slice r.B r.m r.d], .int .i64 z]) ∧ RawOk w' r p ∧ Below w.heap.size w w'
def RcB (r : PMa.Rcd) (z : Int) (w : World) (e : Ending) (w' : World) : Prop := e = .returned (.tuple #[.agg #[.int .i64 r.frm, .int .i64 r.ctr, .int .i64 r.base, .int .i64 r.bonus, .int .i64 r.hours, .int .i64 r.days, .bool r.lead], .int .i64 z]) ∧ Below w.heap.size w w'
theorem rawOk_nil (w : World) : RawOk w ⟨0, 0, 0, none, 0, 0, none, 0, 0⟩ ⟨0, 0, 0, [], []⟩ := ⟨rfl, rfl, rfl, slr_nil _ _ _, slr_nil _ _ _, fun _ => rfl, fun _ => rfl, Nat.le_refl _, Nat.le_refl _, Nat.zero_le _, Nat.zero_le _⟩
theorem box5f {w : World} {H : Nat} {a b c d e : Value} (h : Box w H [a, b, c, d, e]) : w.frozen? ⟨H, 0, none⟩ = false ∧ w.frozen? ⟨H, 1, none⟩ = false ∧ w.frozen? ⟨H, 2, none⟩ = false ∧ w.frozen? ⟨H, 3, none⟩ = false ∧ w.frozen? ⟨H, 4, none⟩ = false := ⟨h.f 0 rfl, h.f 1 rfl, h.f 2 rfl, h.f 3 rfl, h.f 4 rfl⟩
theorem set5 {w : World} {H : Nat} {a b c d e : Value} (h : Box w H [a, b, c, d, e]) (a' b' c' d' e' : Value) :
    ∃ w', ((((w.setCell ⟨H, 0, none⟩ a').setCell ⟨H, 1, none⟩ b').setCell ⟨H, 2, none⟩ c').setCell ⟨H, 3, none⟩ d').setCell ⟨H, 4, none⟩ e' = w' ∧ Box w' H [a', b', c', d', e'] ∧ Only H w w' :=
  ⟨_, rfl, ((((h.set 0 (by simp) a').set 1 (by simp) b').set 2 (by simp) c').set 3 (by simp) d').set 4 (by simp) e', (((((Only.refl H w).set 0 a').set 1 b').set 2 c').set 3 d').set 4 e'⟩
theorem SlX.only {α : Type} {R : Rec α} {w w' : World} {A : Option Addr} {n H : Nat} {l : List α} (h : SlX R w A n l) (ho : Only H w w') (hA : ∀ b o, A = some ⟨b, o, none⟩ → n ≠ 0 → b ≠ H) : SlX R w' A n l :=
  h.cells (fun b hb hn o => by
    obtain ⟨off, e⟩ := hb
    exact ho.cell _ (hA b off e hn))
/-- What is elsewhere stands behind stores into a block that came later. -/
theorem SlX.keep {α : Type} {R : Rec α} {w w2 w' : World} {A : Option Addr} {n H : Nat} {l : List α} (h : SlX R w A n l) (hb : Below w.heap.size w w2) (hH : w.heap.size ≤ H) (ho : Only H w2 w') : SlX R w' A n l :=
  h.on (ho.below hH hb)
theorem place_at {M : List PMa.Per} {id : Int} (h : PMa.there M id = true) : ∃ p, M[PMa.place M id]? = some p ∧ p.id = id ∧ M.getD (PMa.place M id) default = p := by
  unfold PMa.there at h
  split at h
  · rename_i p hp
    exact ⟨p, hp, by simpa using h, by rw [List.getD, hp]; rfl⟩
  · cases h
set_option maxRecDepth 100000 in
set_option maxHeartbeats 6400000 in
theorem kfind_any {w : World} {A : Option Addr} {n c : Nat} {M : List PMa.Per} (hM : MaI w A n c M) (hF : PMa.Fine M) (hn : n ≤ 90000) (id : Int) :
    Calls Try.prog 14 #[.agg #[.slice A n c], .int .i64 id] w (FiB (PMa.find M id).1 (PMa.find M id).2 w) := by
  obtain ⟨Q, hQ⟩ : ∃ Q, FiB (PMa.find M id).1 (PMa.find M id).2 w = Q := ⟨_, rfl⟩
  rw [hQ]
  obtain ⟨w1, hw1, XB, b1⟩ : ∃ w1, w.alloc (.cells #[.slice A n c] 26) = w1 ∧ Box w1 w.heap.size [.slice A n c] ∧ Below w.heap.size w w1 := ⟨_, rfl, Box.new _ _ [.slice A n c], (Below.refl _ _).alloc (Nat.le_refl _) _⟩
  obtain ⟨w2, hw2, RB, b2⟩ : ∃ w2, w1.alloc (.cells #[.int .i64 0, .int .i64 0, .int .i64 0, .slice none 0 0, .slice none 0 0] 53) = w2 ∧ Box w2 w1.heap.size [.int .i64 0, .int .i64 0, .int .i64 0, .slice none 0 0, .slice none 0 0] ∧ Below w1.heap.size w1 w2 := ⟨_, rfl, Box.new _ _ [.int .i64 0, .int .i64 0, .int .i64 0, .slice none 0 0, .slice none 0 0], (Below.refl _ _).alloc (Nat.le_refl _) _⟩
  have hs1 : w1.heap.size = w.heap.size + 1 := by rw [← hw1]; simp
  rw [hs1] at RB
  have b12 := below_step b1 b2
  have XB2 := XB.on b2
  have y0 : w2.cell? ⟨w.heap.size, 0, none⟩ = some (.slice A n c) := XB2.c 0 rfl
  have hsx := XB2.1
  have CP := Lib.hid (kplace_any (c := c) (hM.on b12).s hF (by omega) id)
  obtain ⟨pl, hpl⟩ : ∃ p, PMa.place M id = p := ⟨_, rfl⟩
  have HM := Lib.hid (hM.on b12); have HX := Lib.hid XB2; have HR := Lib.hid RB; have B2 := Lib.hid b12; have HPL := Lib.hid hpl
  have HW1 := Lib.hid hw1; have HW2 := Lib.hid hw2; have HS1 := Lib.hid hs1
  have hbase : w.heap.size ≤ w.heap.size + 1 := Nat.le_succ _
  cases ht : PMa.there M id with
  | false =>
    have FIN : Hid (∀ w', Below w.heap.size w w' → Q (.returned (.tuple #[.agg #[.int .i64 0, .int .i64 0, .int .i64 0, .slice none 0 0, .slice none 0 0], .int .i64 5])) w') := Lib.hid (fun w' hb => by
      rw [← hQ]
      unfold PMa.find
      rw [ht]
      exact ⟨⟨0, 0, 0, none, 0, 0, none, 0, 0⟩, rfl, rawOk_nil w', hb⟩)
    rw [ht, hpl] at CP
    clear hQ hw1 hw2 XB RB XB2 b1 b2 b12 hs1 ht hpl hM
    go_enter Try.func14, Try.ntmps14
    go_upto_region 1 with fail
    rw [HW1.out, HW2.out]
    clear HW1 HW2
    go_wp2_with (go_at_call 24; refine CP.out.mono ?_)
    intro e3 w3 h3
    obtain ⟨rfl, b3'⟩ := h3
    have R3 := HR.out.on b3'
    obtain ⟨r0, r1, r2, r3, r4⟩ := box5 R3
    obtain ⟨rf0, rf1, rf2, rf3, rf4⟩ := box5f R3
    have hsr := R3.1
    obtain ⟨w4, hw4, R4, ON4⟩ := set5 R3 (.int .i64 0) (.int .i64 0) (.int .i64 0) (.slice none 0 0) (.slice none 0 0)
    have B4 := Lib.hid (ON4.below hbase (below_step B2.out b3'))
    obtain ⟨k0, k1, k2, k3, k4⟩ := box5 R4
    have hk := R4.1
    have HW4 := Lib.hid hw4
    clear b3' CP R3 R4 ON4 hw4 y0 hsx
    go_wp2_with fail
    rw [HW4.out]
    clear r0 r1 r2 r3 r4 rf0 rf1 rf2 rf3 rf4 hsr
    refine bodyPost_ret (by simp [results, Try.results14, go_sem, k0, k1, k2, k3, k4]; try rfl) rfl ?_
    exact FIN.out _ B4.out
  | true =>
    obtain ⟨p, hp, hid, hd⟩ := place_at ht
    have FIN : Hid (∀ (r : Raw) w', RawOk w' r p → Below w.heap.size w w' → Q (.returned (.tuple #[.agg #[.int .i64 r.id, .int .i64 r.hired, .int .i64 r.gone, .slice r.A r.n r.c, .slice r.B r.m r.d], .int .i64 0])) w') := Lib.hid (fun r w' hr hb => by
      rw [← hQ]
      unfold PMa.find
      rw [ht, hd]
      exact ⟨r, rfl, hr, hb⟩)
    rw [ht, hpl] at CP
    rw [hpl] at hp
    obtain ⟨rs, hS, hO⟩ := hM.s
    have hMn : M.length = n := hM.s.len
    have hpn : pl < n := by rw [← hMn]; exact (List.getElem?_eq_some_iff.1 hp).1
    obtain ⟨bA, oA, rfl, -⟩ := hS.at hpn
    obtain ⟨r, hr⟩ : ∃ r, rs[pl]? = some r := ⟨_, List.getElem?_eq_getElem (by rw [hS.1]; exact hpn)⟩
    have hok := hO.at_ pl r p hr hp
    have HSl := Lib.hid hS; have HRr := Lib.hid hr; have HOK := Lib.hid hok
    have gp : (pl : Int) < (n : Int) := by omega
    have gp0 : (0 : Int) ≤ (pl : Int) := by omega
    clear hQ hw1 hw2 XB RB XB2 b1 b2 b12 hs1 ht hpl hM hS hO hr hok hp hd hid hMn
    go_enter Try.func14, Try.ntmps14
    go_upto_region 1 with fail
    rw [HW1.out, HW2.out]
    clear HW1 HW2
    go_wp2_with (go_at_call 24; refine CP.out.mono ?_)
    intro e3 w3 h3
    obtain ⟨rfl, b3'⟩ := h3
    have R3 := HR.out.on b3'
    obtain ⟨r0, r1, r2, r3, r4⟩ := box5 R3
    obtain ⟨rf0, rf1, rf2, rf3, rf4⟩ := box5f R3
    have hsr := R3.1
    have X3 := HX.out.on b3'
    have y0 : w3.cell? ⟨w.heap.size, 0, none⟩ = some (.slice (some ⟨bA, oA, none⟩) n c) := X3.c 0 rfl
    have hsx := X3.1
    obtain ⟨l0, l1, l2, l3, l4⟩ := raw_cell (HSl.out.on (below_step B2.out b3')) hpn HRr.out
    have hsl := World.block_lt_of_cell? w3 _ l0
    obtain ⟨w4, hw4, R4, ON4⟩ := set5 R3 (.int .i64 r.id) (.int .i64 r.hired) (.int .i64 r.gone) (.slice r.A r.n r.c) (.slice r.B r.m r.d)
    have B4 := Lib.hid (ON4.below hbase (below_step B2.out b3'))
    have OK4 := Lib.hid (HOK.out.on B4.out)
    obtain ⟨k0, k1, k2, k3, k4⟩ := box5 R4
    have hk := R4.1
    have HW4 := Lib.hid hw4
    clear b3' CP R3 R4 ON4 hw4 X3
    go_wp2_with fail
    rw [HW4.out]
    clear r0 r1 r2 r3 r4 rf0 rf1 rf2 rf3 rf4 hsr y0 hsx l0 l1 l2 l3 l4 hsl
    refine bodyPost_ret (by simp [results, Try.results14, go_sem, k0, k1, k2, k3, k4]; try rfl) rfl ?_
    exact FIN.out _ _ OK4.out B4.out
theorem box7f' {w : World} {H : Nat} {a b c d e f g : Value} (h : Box w H [a, b, c, d, e, f, g]) : w.frozen? ⟨H, 0, none⟩ = false ∧ w.frozen? ⟨H, 1, none⟩ = false ∧ w.frozen? ⟨H, 2, none⟩ = false ∧ w.frozen? ⟨H, 3, none⟩ = false ∧ w.frozen? ⟨H, 4, none⟩ = false ∧ w.frozen? ⟨H, 5, none⟩ = false ∧ w.frozen? ⟨H, 6, none⟩ = false :=
  ⟨h.f 0 rfl, h.f 1 rfl, h.f 2 rfl, h.f 3 rfl, h.f 4 rfl, h.f 5 rfl, h.f 6 rfl⟩
theorem upTo_le (l : List PMa.Rcd) (t : Int) : PMa.upTo l t ≤ l.length := PMa.lead_le _ l
set_option maxRecDepth 100000 in
set_option maxHeartbeats 12800000 in
theorem kperat_any {w : World} {r : Raw} {p : PMa.Per} (hk : RawOk w r p) (hU : PMa.Up p.recs) (hn : r.n ≤ 1000000) (t : Int) :
    Calls Try.prog 21 #[.agg #[.int .i64 r.id, .int .i64 r.hired, .int .i64 r.gone, .slice r.A r.n r.c, .slice r.B r.m r.d], .int .i64 t] w (RcB (PMa.perAt p t).1 (PMa.perAt p t).2 w) := by
  obtain ⟨Q, hQ⟩ : ∃ Q, RcB (PMa.perAt p t).1 (PMa.perAt p t).2 w = Q := ⟨_, rfl⟩
  rw [hQ]
  obtain ⟨rid, rh, rg, rA, rn, rc, rB, rm, rd⟩ := r
  have hRec : SlX rcdR w rA rn p.recs := hk.recs
  dsimp only at hn ⊢
  obtain ⟨w1, hw1, XB, b1⟩ : ∃ w1, w.alloc (.cells #[.int .i64 rid, .int .i64 rh, .int .i64 rg, .slice rA rn rc, .slice rB rm rd] 53) = w1 ∧ Box w1 w.heap.size [.int .i64 rid, .int .i64 rh, .int .i64 rg, .slice rA rn rc, .slice rB rm rd] ∧ Below w.heap.size w w1 := ⟨_, rfl, Box.new _ _ [.int .i64 rid, .int .i64 rh, .int .i64 rg, .slice rA rn rc, .slice rB rm rd], (Below.refl _ _).alloc (Nat.le_refl _) _⟩
  obtain ⟨w2, hw2, RB, b2⟩ : ∃ w2, w1.alloc (.cells #[.int .i64 0, .int .i64 0, .int .i64 0, .int .i64 0, .int .i64 0, .int .i64 0, .bool false] 47) = w2 ∧ Box w2 w1.heap.size [.int .i64 0, .int .i64 0, .int .i64 0, .int .i64 0, .int .i64 0, .int .i64 0, .bool false] ∧ Below w1.heap.size w1 w2 := ⟨_, rfl, Box.new _ _ [.int .i64 0, .int .i64 0, .int .i64 0, .int .i64 0, .int .i64 0, .int .i64 0, .bool false], (Below.refl _ _).alloc (Nat.le_refl _) _⟩
  have hs1 : w1.heap.size = w.heap.size + 1 := by rw [← hw1]; simp
  rw [hs1] at RB
  have b12 := below_step b1 b2
  have XB2 := XB.on b2
  obtain ⟨y0, y1, y2, y3, y4⟩ := box5 XB2
  have hsx := XB2.1
  have CU := Lib.hid (kupto_any (c := rc) (hRec.on b12) hn hU t)
  have hle := upTo_le p.recs t
  rw [hRec.1] at hle
  obtain ⟨u, hu⟩ : ∃ u, PMa.upTo p.recs t = u := ⟨_, rfl⟩
  rw [hu] at CU hle
  have HRec := Lib.hid hRec; have HX := Lib.hid XB2; have HR := Lib.hid RB; have B2 := Lib.hid b12; have HUU := Lib.hid hu
  have HW1 := Lib.hid hw1; have HW2 := Lib.hid hw2
  have hbase : w.heap.size ≤ w.heap.size + 1 := Nat.le_succ _
  have FN : Hid (u = 0 ∨ t < rh ∨ (¬ rg = 0 ∧ rg ≤ t) → ∀ w', Below w.heap.size w w' → Q (.returned (.tuple #[.agg #[.int .i64 0, .int .i64 0, .int .i64 0, .int .i64 0, .int .i64 0, .int .i64 0, .bool false], .int .i64 5])) w') := Lib.hid (fun h w' hb => by
    rw [← hQ]
    unfold PMa.perAt
    rw [hu, if_pos (by rw [← hk.hired, ← hk.gone]; exact h)]
    exact ⟨rfl, hb⟩)
  have FY : Hid (∀ q : PMa.Rcd, ¬ (u = 0 ∨ t < rh ∨ (¬ rg = 0 ∧ rg ≤ t)) → p.recs[u - 1]? = some q → ∀ w', Below w.heap.size w w' → Q (.returned (.tuple #[.agg #[.int .i64 q.frm, .int .i64 q.ctr, .int .i64 q.base, .int .i64 q.bonus, .int .i64 q.hours, .int .i64 q.days, .bool q.lead], .int .i64 0])) w') := Lib.hid (fun q h hq w' hb => by
    rw [← hQ]
    unfold PMa.perAt
    rw [hu, if_neg (by rw [← hk.hired, ← hk.gone]; exact h)]
    rw [show p.recs.getD (u - 1) default = q by rw [List.getD, hq]; rfl]
    exact ⟨rfl, hb⟩)
  clear hQ hw1 hw2 XB RB XB2 b1 b2 b12 hs1 hk hu hU hRec
  by_cases hcond : u = 0 ∨ t < rh ∨ (¬ rg = 0 ∧ rg ≤ t)
  · have FN := Lib.hid (FN.out hcond)
    have h4 : ((u : Int) = 0) ∨ (¬ (u : Int) = 0 ∧ t < rh) ∨ (¬ (u : Int) = 0 ∧ ¬ t < rh ∧ ¬ rg = 0 ∧ rg ≤ t) := by omega
    clear FY hcond
    rcases h4 with g1 | ⟨g1, g2⟩ | ⟨g1, g2, g3, g4⟩
    all_goals
      (try have e0 : ((u : Int) == 0) = false := by rw [beq_eq_false_iff_ne]; exact g1)
      (try have e0 : ((u : Int) == 0) = true := by rw [beq_iff_eq]; exact g1)
      (try have e1 : decide (t < rh) = true := decide_eq_true g2)
      (try have e1 : decide (t < rh) = false := decide_eq_false g2)
      (try have e2 : (rg != 0) = true := by rw [bne_iff_ne]; exact g3)
      (try have e3 : decide (rg ≤ t) = true := decide_eq_true g4)
      clear g1
      (try clear g2)
      (try clear g3 g4)
      go_enter Try.func21, Try.ntmps21
      go_upto_region 1 with fail
      rw [HW1.out, HW2.out]
      clear HW1 HW2
      go_wp2_with (go_at_call 34; refine CU.out.mono ?_)
      intro e3 w3 h3
      obtain ⟨rfl, b3'⟩ := h3
      obtain ⟨y0, y1, y2, y3, y4⟩ := box5 (HX.out.on b3')
      have hsx := (HX.out.on b3').1
      have R3 := HR.out.on b3'
      obtain ⟨r0, r1, r2, r3, r4, r5, r6⟩ := box7 R3
      obtain ⟨rf0, rf1, rf2, rf3, rf4, rf5, rf6⟩ := box7f' R3
      have hsr := R3.1
      obtain ⟨w4, hw4, R4, ON4⟩ := store7 R3 (.int .i64 0) (.int .i64 0) (.int .i64 0) (.int .i64 0) (.int .i64 0) (.int .i64 0) (.bool false)
      have B4 := Lib.hid (ON4.below hbase (below_step B2.out b3'))
      obtain ⟨k0, k1, k2, k3, k4, k5, k6⟩ := box7 R4
      have hk := R4.1
      have HW4 := Lib.hid hw4
      clear b3' CU R3 R4 ON4 hw4
      go_wp2_with fail
      rw [HW4.out]
      clear r0 r1 r2 r3 r4 r5 r6 rf0 rf1 rf2 rf3 rf4 rf5 rf6 hsr y0 y1 y2 y3 y4 hsx
      refine bodyPost_ret (by simp [results, Try.results21, go_sem, k0, k1, k2, k3, k4, k5, k6]; try rfl) rfl ?_
      exact FN.out _ B4.out
  · have hu0 : 0 < u := by omega
    obtain ⟨q, hq⟩ : ∃ q, p.recs[u - 1]? = some q := ⟨_, List.getElem?_eq_getElem (by rw [HRec.out.1]; omega)⟩
    have FZ := Lib.hid (FY.out q hcond hq)
    clear FY
    have HQq := Lib.hid hq
    obtain ⟨m, rfl⟩ : ∃ m, u = m + 1 := ⟨u - 1, by omega⟩
    have hmn : m < rn := by omega
    rw [show m + 1 - 1 = m from rfl] at HQq
    obtain ⟨bA, oA, rfl, -⟩ := HRec.out.at hmn
    have g1 : ¬ (((m + 1 : Nat) : Int)) = 0 := by omega
    have g2 : ¬ t < rh := by omega
    have gm0 : (0 : Int) ≤ (m : Int) := by omega
    have gmn : (m : Int) < (rn : Int) := by omega
    have gw1 : IntKind.i64.wrap (((m + 1 : Nat) : Int) - 1) = (m : Int) := by rw [IntKind.wrap_i64]; omega
    have gw2 : ((m : Int) + 1 - 1) = (m : Int) := by omega
    have gw3 : IntKind.i64.wrap ((m : Int) + 1 - 1) = (m : Int) := by rw [IntKind.wrap_i64]; omega
    have h2 : rg = 0 ∨ (¬ rg = 0 ∧ ¬ rg ≤ t) := by omega
    clear FN hcond hq
    have e0 : ((m : Int) + 1 == 0) = false := by rw [beq_eq_false_iff_ne]; omega
    have e1 : decide (t < rh) = false := decide_eq_false g2
    clear g1 g2
    rcases h2 with rfl | ⟨g3, g4⟩
    all_goals
      (try have e2 : (rg != 0) = true := by rw [bne_iff_ne]; exact g3)
      (try have e3 : decide (rg ≤ t) = false := decide_eq_false g4)
      (try clear g3 g4)
      go_enter Try.func21, Try.ntmps21
      go_upto_region 1 with fail
      rw [HW1.out, HW2.out]
      clear HW1 HW2
      go_wp2_with (go_at_call 34; refine CU.out.mono ?_)
      intro e3 w3 h3
      obtain ⟨rfl, b3'⟩ := h3
      obtain ⟨y0, y1, y2, y3, y4⟩ := box5 (HX.out.on b3')
      have hsx := (HX.out.on b3').1
      have R3 := HR.out.on b3'
      obtain ⟨r0, r1, r2, r3, r4, r5, r6⟩ := box7 R3
      obtain ⟨rf0, rf1, rf2, rf3, rf4, rf5, rf6⟩ := box7f' R3
      have hsr := R3.1
      have SR := HRec.out.on (below_step B2.out b3')
      obtain ⟨l0, l1, l2, l3, l4, l5, l6⟩ := rcd_cell SR hmn HQq.out
      have hsl := World.block_lt_of_cell? w3 _ l0
      obtain ⟨w4, hw4, R4, ON4⟩ := store7 R3 (.int .i64 q.frm) (.int .i64 q.ctr) (.int .i64 q.base) (.int .i64 q.bonus) (.int .i64 q.hours) (.int .i64 q.days) (.bool q.lead)
      have B4 := Lib.hid (ON4.below hbase (below_step B2.out b3'))
      obtain ⟨k0, k1, k2, k3, k4, k5, k6⟩ := box7 R4
      have hk := R4.1
      have HW4 := Lib.hid hw4
      clear b3' CU R3 R4 ON4 hw4 SR
      go_wp2_with fail
      rw [HW4.out]
      clear r0 r1 r2 r3 r4 r5 r6 rf0 rf1 rf2 rf3 rf4 rf5 rf6 hsr y0 y1 y2 y3 y4 hsx l0 l1 l2 l3 l4 l5 l6 hsl
      refine bodyPost_ret (by simp [results, Try.results21, go_sem, k0, k1, k2, k3, k4, k5, k6]; try rfl) rfl ?_
      exact FZ.out _ B4.out
end Go.Proofs.Ytbnnmakmgleikaa
