/-
  OrderMore: a rule that is put at the end, of a name that is nowhere, turns nothing of the others: it is the last one.
-/
import Derived.Test.YtdkcdgjpcojdfaaGreatDoorOrdCheckG
import Derived.Test.YtdkcdgjpcojdfaaGreatDoorOrdMoreG
import Derived.Test.YtdkcdgjpcojdfaaGreatDoorTreeJoinG

set_option linter.unusedVariables false
namespace Go.Proofs.YtdkcdgjpcojdfaaGreatDoor
open Go.RowKit
open PTree (R Ex Tr Rl Row Wf X0)
open PCheck (Xp Bd)

def BadO (k q : Nat) (w : World) (e : Ending) (w' : World) : Prop := e = .returned (.tuple #[.agg #[.slice none 0 0, .slice none 0 0], .int .i64 (q : Nat), .int .i64 (k : Nat)]) ∧ Below w.heap.size w w' ∧ k ≠ 0
theorem badO_any {s : ByteArray} {k q : Nat} (h : PTree.parse s.data.toList = some (.bad k q)) (hs : s.size ≤ 600) (w : World) : Calls Tryz.prog 10 #[.string s] w (BadO k q w) := by
  have P := tparse_any s w (by omega)
  rw [h] at P
  exact P.mono fun e w' k => ⟨k.2.1, k.1, k.2.2⟩
theorem chk_lenO {E : List Xp} {RL : List Rw} : ∀ (l : List Nat) (bd : List Bd) (ks : List Int) (k2 : List Int) (p : Nat), chk E RL l bd ks = (k2, p, 0) → k2.length = ks.length
  | [], _, ks, k2, p, h => by cases h; rfl
  | i :: l, bd, ks, k2, p, h => by
    unfold chk at h
    cases hr : RL[i]? with
    | none => rw [hr] at h; cases h; rfl
    | some r =>
      rw [hr] at h
      simp only [] at h
      split at h
      · rename_i he
        simp only [Prod.mk.injEq] at h
        exact absurd h.2.2 he
      · split at h
        · cases h
        · have := chk_lenO l _ _ k2 p h
          rw [this, List.length_set]
/-- What all kinds are like. -/
theorem chkA_ends {rs : List Rl} {la : List Nat} {ka : List Int} {p e : Nat} (h : chkA rs.length (xpX rs) (rwX rs) (POrd.ans (nmR (rwX rs)) (POrd.hangs rs)) = (la, ka, p, e)) : (e = 0 ∧ la.length = rs.length ∧ ka.length = rs.length) ∨ (e ≠ 0 ∧ la = [] ∧ ka = []) := by
  have hnl : (nmR (rwX rs)).length = rs.length := by rw [nmR_len, rwX_len]
  cases hA : POrd.ans (nmR (rwX rs)) (POrd.hangs rs) with
  | mk l x =>
    obtain ⟨q, f⟩ := x
    rw [hA] at h
    cases f with
    | succ f =>
      have h : (([] : List Nat), ([] : List Int), q, f + 1) = (la, ka, p, e) := h
      cases h; exact .inr ⟨Nat.succ_ne_zero _, rfl, rfl⟩
    | zero =>
      obtain ⟨g1, g2, -⟩ := POrd.ans_ok hA
      have h : chkR l (chk (xpX rs) (rwX rs) l POrd.inB (List.replicate rs.length 0)) = (la, ka, p, e) := h
      cases hc : chk (xpX rs) (rwX rs) l POrd.inB (List.replicate rs.length 0) with
      | mk k2 x =>
        obtain ⟨p2, e2⟩ := x
        rw [hc] at h
        cases e2 with
        | zero =>
          have h : (l, k2, 0, 0) = (la, ka, p, e) := h
          cases h
          have := chk_lenO _ _ _ _ _ hc
          rw [List.length_replicate] at this
          exact .inl ⟨rfl, by rw [g2, hnl], this⟩
        | succ e2 =>
          have h : (([] : List Nat), ([] : List Int), p2, e2 + 1) = (la, ka, p, e) := h
          cases h; exact .inr ⟨Nat.succ_ne_zero _, rfl, rfl⟩
theorem slx_takeO {w : World} {A : Option Addr} {n m : Nat} {l k : List Int} (h : SlX intR w A m (l ++ k)) (hn : l.length = n) : SlX intR w A n l := by
  obtain ⟨h1, h2⟩ := h
  refine ⟨hn, ?_⟩
  rcases h2 with h2 | ⟨b, o, rfl, hc⟩
  · rw [List.length_append] at h1; left; omega
  · refine .inr ⟨b, o, rfl, fun i hi j v e => hc i (by rw [List.length_append]; omega) j v ?_⟩
    rw [List.getElem_append_left hi]; exact e
theorem no_nms {rs : List Rl} (hW : ∀ r ∈ rs, Wf X0 r.tree) {s : List UInt8} (h : ∀ x ∈ xpX rs, x.name ≠ s) : ∀ r ∈ rs, s ∉ POrd.nms r.tree := fun r hr k => by
  obtain ⟨i, hi, e⟩ := List.getElem_of_mem hr
  have hir : rs[i]? = some r := by rw [List.getElem?_eq_getElem hi, e]
  rw [← POrd.nmE_flat r.tree (offs rs i) (hW r hr), POrd.nmE_mem] at k
  obtain ⟨x, hx, -, hn⟩ := k
  obtain ⟨j, hj, e⟩ := List.getElem_of_mem hx
  have := lies_at hir j x (by rw [List.getElem?_eq_getElem hj, e])
  exact h _ (List.mem_of_getElem? this) hn
theorem no_rows {rs : List Rl} {s : List UInt8} (h : ∀ x ∈ rwX rs, x.2.1 ≠ s) : ∀ r ∈ rs, r.name ≠ s := fun r hr => by
  obtain ⟨i, hi, e⟩ := List.getElem_of_mem hr
  have := rw_at (i := i) (r := r) (by rw [List.getElem?_eq_getElem hi, e])
  exact h _ (List.mem_of_getElem? this)
theorem more_parse {s : List UInt8} {t : List PLex.Tok} {rs : List Rl} (h : PTree.parse s = some (.ok t rs)) (hr : rs.length ≤ 59) : ∃ t2, PTree.parse (s ++ 10 :: loneT) = some (.ok t2 (rs ++ [loneR])) :=
  ((PTree.parse_join h).1 _ _ lone_parse).1 (by simp; omega)
theorem more_data (s : ByteArray) : (s ++ ({ data := #[10, 108, 101, 116, 32, 108, 111, 110, 101, 108, 121, 32, 61, 32, 49, 59] } : ByteArray)).data.toList = s.data.toList ++ 10 :: loneT := by
  simp [loneT]
theorem take_noO {α : Type} {P : α → Prop} {l : List α} {j : Nat} {x : α} (h : ∀ y ∈ l.take j, P y) (hx : l[j]? = some x) (hp : P x) : ∀ y ∈ l.take (j + 1), P y := fun y hy => by
  rw [List.take_add_one, hx, List.mem_append] at hy
  rcases hy with hy | hy
  · exact h y hy
  · obtain rfl : y = x := by simpa using hy
    exact hp
set_option maxRecDepth 100000 in
set_option maxHeartbeats 12800000 in
theorem omore_walk (s : ByteArray) (w : World) (ht : Tab2 w) (hs : s.size ≤ maxLen) :
    Calls Tryz.prog 5 #[.string s] w (BoolAns true w) := by
  obtain ⟨Q, hQ⟩ : ∃ Q, BoolAns true w = Q := ⟨_, rfl⟩
  rw [hQ]
  have FIN : Hid (∀ (w' : World), Below w.heap.size w w' → Q (.returned (.bool true)) w') := Lib.hid (fun w' a => by rw [← hQ]; exact ⟨rfl, a⟩)
  have HT := Lib.hid ht
  unfold maxLen at hs
  clear hQ ht
  by_cases h6 : 400 < s.size
  · have hl : (400 : Int) < (s.size : Int) := by omega
    have AW := Lib.hid (aw11_any w HT.out)
    go_enter Tryz.func5, Tryz.ntmps5
    go_wp2_with (go_at_call 8; refine AW.out.mono ?_)
    intro e1 w1 h1
    obtain ⟨rfl, b1⟩ := h1
    have B1 := Lib.hid b1
    clear b1 AW
    go_wp2_with fail
    exact FIN.out _ B1.out
  have hl : ¬ (400 : Int) < (s.size : Int) := by omega
  cases hp : PTree.parse s.data.toList with
  | none =>
    have PA := Lib.hid (tparse_any s w (by omega))
    have HP := Lib.hid hp
    clear hp
    go_enter Tryz.func5, Tryz.ntmps5
    go_wp2_with (go_at_call 10; refine PA.out.mono ?_)
    intro e1 w1 h1
    obtain ⟨-, h1⟩ := h1
    rw [HP.out] at h1
    exact h1.elim
  | some r =>
  cases r with
  | bad k q =>
    have PA1 := Lib.hid (badO_any hp (by omega) w)
    clear hp
    go_enter Tryz.func5, Tryz.ntmps5
    go_wp2_with (go_at_call 10; refine PA1.out.mono ?_)
    intro e1 w1 h1
    obtain ⟨rfl, b1, hk0⟩ := h1
    obtain ⟨w2, hw2, YB, b2⟩ : ∃ w2, w1.alloc (.cells #[.slice none 0 0, .slice none 0 0] 32) = w2 ∧ Box w2 w1.heap.size [.slice none 0 0, .slice none 0 0] ∧ Below w1.heap.size w1 w2 := ⟨_, rfl, Box.new _ _ [.slice none 0 0, .slice none 0 0], (Below.refl _ _).alloc (Nat.le_refl _) _⟩
    obtain ⟨w3, hw3, Y3, ON3⟩ := store2 YB (.slice none 0 0) (.slice none 0 0)
    have b3 := ON3.below (Nat.le_refl _) b2
    have B3 := Lib.hid (below_step b1 b3)
    have AW := Lib.hid (aw11_any w3 (HT.out.on B3.out))
    obtain ⟨y0, y1⟩ := px2 YB
    obtain ⟨z0, z1⟩ := px2f YB
    have hs2 := YB.1
    have HW3 := Lib.hid hw3
    have gk : ((k : Int) != 0) = true := by simp; omega
    clear YB Y3 ON3 b1 b2 b3 hw3 PA1 hk0
    go_upto_region 4 with fail
    rw [HW3.out]
    clear HW3 hw2 y0 y1 z0 z1 hs2
    go_wp2_with (go_at_call 8; refine AW.out.mono ?_)
    intro e8 w8 h8
    obtain ⟨rfl, b8⟩ := h8
    have B8 := Lib.hid (below_step B3.out b8)
    clear b8 AW
    go_wp2_with fail
    exact FIN.out _ B8.out
  | ok t rs =>
    obtain ⟨rl, hrl⟩ : ∃ rl, rs.length = rl := ⟨_, rfl⟩
    obtain ⟨sz, hsz⟩ : ∃ sz, PTree.sizeOf rs = sz := ⟨_, rfl⟩
    have hsl : s.data.toList.length ≤ 400 := by rw [Array.length_toList]; show s.size ≤ 400; omega
    have hfit := fit_500 hp (by omega)
    have hr60 : rl ≤ 60 := by rw [← hrl]; exact hfit.rules
    have hz500 : sz ≤ 500 := by rw [← hsz]; exact hfit.size
    have PR := Lib.hid (tparse_fit hp (by omega) w hrl hsz)
    have HP := Lib.hid hp; have HRL := Lib.hid hrl; have HSZ := Lib.hid hsz; have HFT := Lib.hid hfit
    have HSL := Lib.hid hsl
    clear hp hrl hsz hfit hsl
    go_enter Tryz.func5, Tryz.ntmps5
    go_wp2_with (go_at_call 10; refine PR.out.mono ?_)
    intro e5 w5 h5
    obtain ⟨A2, ca2, B2, cb2, rfl, hcb2, s3, s4, b5⟩ := h5
    obtain ⟨w6, hw6, YB, b6⟩ : ∃ w6, w5.alloc (.cells #[.slice none 0 0, .slice none 0 0] 32) = w6 ∧ Box w6 w5.heap.size [.slice none 0 0, .slice none 0 0] ∧ Below w5.heap.size w5 w6 := ⟨_, rfl, Box.new _ _ [.slice none 0 0, .slice none 0 0], (Below.refl _ _).alloc (Nat.le_refl _) _⟩
    obtain ⟨w7, hw7, Y7, ON7⟩ := store2 YB (.slice A2 rl ca2) (.slice B2 sz cb2)
    have b7 := ON7.below (Nat.le_refl _) b6
    have B7 := Lib.hid (below_step b5 b7)
    have S3 := Lib.hid (s3.on b7); have S4 := Lib.hid (s4.on b7)
    have HT7 := Lib.hid (HT.out.on B7.out)
    have HY7 := Lib.hid Y7
    obtain ⟨y0, y1⟩ := px2 YB
    obtain ⟨z0, z1⟩ := px2f YB
    have hs6 := YB.1
    obtain ⟨q0, q1⟩ := px2 Y7
    have hs7 := Y7.1
    have HW7 := Lib.hid hw7
    have HCB := Lib.hid hcb2
    clear YB Y7 ON7 b5 b6 b7 hw7 PR s3 s4 hcb2
    go_upto_region 4 with fail
    rw [HW7.out]
    clear HW7 hw6 y0 y1 z0 z1 hs6
    by_cases h59 : 59 < rl
    · have g59 : (59 : Int) < (rl : Int) := by omega
      have AW := Lib.hid (aw11_any w7 HT7.out)
      go_wp2_with (go_at_call 8; refine AW.out.mono ?_)
      intro e8 w8 h8
      obtain ⟨rfl, b8⟩ := h8
      have B8 := Lib.hid (below_step B7.out b8)
      clear b8 AW
      go_wp2_with fail
      exact FIN.out _ B8.out
    have g59 : ¬ (59 : Int) < (rl : Int) := by omega
    go_wp2_with fail
    clear q0 q1 hs7
    obtain ⟨BX, hBX⟩ : ∃ BX, w5.heap.size = BX := ⟨_, rfl⟩
    rw [hBX] at HY7 ⊢
    go_loopw [43] (fun x wx => ∃ j : Nat, x = .int .i64 j ∧ j ≤ sz ∧ Hid (Below w7.heap.size w7 wx) ∧ Hid (∀ y ∈ (xpX rs).take j, y.name ≠ loneW)) (fun x _ => sz - (intOf x).toNat)
    case atStart => exact ⟨0, rfl, Nat.zero_le _, Lib.hid (Below.refl _ _), Lib.hid (fun y hy => by simp at hy)⟩
    case round =>
      obtain ⟨j, rfl, hj, J1, J2⟩ := hrel
      by_cases hjm : j < sz
      · have gj : (j : Int) < (sz : Int) := by omega
        have hEl : (xpX rs).length = sz := by rw [xpX_len]; exact HSZ.out
        have hxE : j < (xpX rs).length := by rw [hEl]; omega
        obtain ⟨ab, ao, rfl, cE⟩ := (S4.out.on J1.out).at hjm
        have cx := cE j hxE
        obtain ⟨x, hx⟩ : ∃ x, (xpX rs)[j] = x := ⟨_, rfl⟩
        rw [hx] at cx
        have HX : Hid ((xpX rs)[j]? = some x) := Lib.hid (by rw [List.getElem?_eq_getElem hxE, hx])
        obtain ⟨op, nm, vl, ya, yb, yc⟩ := x
        have l0 : wr.cell? ⟨ab, ao + j * 6, none⟩ = some (.string ⟨op.toArray⟩) := cx 0 _ rfl
        have l1 : wr.cell? ⟨ab, ao + j * 6 + 1, none⟩ = some (.string ⟨nm.toArray⟩) := cx 1 _ rfl
        have l2 : wr.cell? ⟨ab, ao + j * 6 + 2, none⟩ = some (.int .i64 vl) := cx 2 _ rfl
        have l3 : wr.cell? ⟨ab, ao + j * 6 + 3, none⟩ = some (.int .i64 ya) := cx 3 _ rfl
        have l4 : wr.cell? ⟨ab, ao + j * 6 + 4, none⟩ = some (.int .i64 yb) := cx 4 _ rfl
        have l5 : wr.cell? ⟨ab, ao + j * 6 + 5, none⟩ = some (.int .i64 yc) := cx 5 _ rfl
        obtain ⟨w11, hw11, SB, b11⟩ : ∃ w11, wr.alloc (.cells #[.string { data := #[] }, .string { data := #[] }, .int .i64 0, .int .i64 0, .int .i64 0, .int .i64 0] 58) = w11 ∧ Box w11 wr.heap.size [.string { data := #[] }, .string { data := #[] }, .int .i64 0, .int .i64 0, .int .i64 0, .int .i64 0] ∧ Below wr.heap.size wr w11 := ⟨_, rfl, Box.new _ _ [.string { data := #[] }, .string { data := #[] }, .int .i64 0, .int .i64 0, .int .i64 0, .int .i64 0], (Below.refl _ _).alloc (Nat.le_refl _) _⟩
        obtain ⟨w12, hw12, X12, ON12⟩ := store6 SB (.string ⟨op.toArray⟩) (.string ⟨nm.toArray⟩) (.int .i64 vl) (.int .i64 ya) (.int .i64 yb) (.int .i64 yc)
        have b12 : Below wr.heap.size wr w12 := ON12.below (Nat.le_refl _) b11
        obtain ⟨u0, u1, u2, u3, u4, u5⟩ := box6 X12
        have hs12 := X12.1
        obtain ⟨s0, s1, s2, s3, s4, s5⟩ := box6 SB
        obtain ⟨m0, m1, m2, m3, m4, m5⟩ := box6f SB
        have hs11 := SB.1
        have hsl := World.block_lt_of_cell? wr _ l0
        have B12 : Hid (Below w7.heap.size w7 w12) := Lib.hid (below_step J1.out b12)
        have HW12 := Lib.hid hw12
        clear cE cx hx X12 ON12 SB b11 b12 hw12 J1 hEl hxE
        by_cases hnm : nm = [108, 111, 110, 101, 108, 121]
        · subst hnm
          have AW := Lib.hid (aw11_any w12 (HT7.out.on B12.out))
          go_upto_region 9 with fail
          rw [HW12.out]
          clear HW12 hw11 s0 s1 s2 s3 s4 s5 m0 m1 m2 m3 m4 m5 hs11 l0 l1 l2 l3 l4 l5 hsl
          go_wp2_with (go_at_call 8; refine AW.out.mono ?_)
          intro e8 w8 h8
          obtain ⟨rfl, b8⟩ := h8
          have B8 := Lib.hid (below_step (below_step B7.out B12.out) b8)
          clear b8 AW
          go_wp2_with fail
          exact FIN.out _ B8.out
        · have ho : (nm == [108, 111, 110, 101, 108, 121]) = false := beq_eq_false_iff_ne.2 hnm
          have HN : Hid (∀ y ∈ (xpX rs).take (j + 1), y.name ≠ loneW) := Lib.hid (take_noO J2.out HX.out hnm)
          clear hnm HX J2
          go_upto_region 9 with fail
          rw [HW12.out]
          clear HW12 hw11 s0 s1 s2 s3 s4 s5 m0 m1 m2 m3 m4 m5 hs11 l0 l1 l2 l3 l4 l5 hsl
          go_wp2_with fail
          exact ⟨⟨j + 1, rfl, by omega, B12, HN⟩, by simp [intOf]; omega⟩
      · obtain rfl : j = sz := by omega
        have gj : ¬ (j : Int) < (j : Int) := by omega
        have HNX : Hid (∀ y ∈ xpX rs, y.name ≠ loneW) := Lib.hid (fun y hy => J2.out y (by rw [List.take_of_length_le (by rw [xpX_len]; have := HSZ.out; omega)]; exact hy))
        obtain ⟨wo, hwo⟩ : ∃ wo, wo = wr := ⟨_, rfl⟩
        subst hwo
        obtain ⟨q0, q1⟩ := px2 (HY7.out.on J1.out)
        have hs7 := (HY7.out.on J1.out).1
        have BO := Lib.hid J1.out
        clear J1 J2 hjm hj
        go_wp2_with fail
        clear q0 q1 hs7
        go_loopw [55] (fun x wx => ∃ j : Nat, x = .int .i64 j ∧ j ≤ rl ∧ Hid (Below w7.heap.size w7 wx) ∧ Hid (∀ y ∈ (rwX rs).take j, y.2.1 ≠ loneW)) (fun x _ => rl - (intOf x).toNat)
        case atStart => exact ⟨0, rfl, Nat.zero_le _, BO, Lib.hid (fun y hy => by simp at hy)⟩
        case round =>
          clear BO
          obtain ⟨i, rfl, hi, J1, J2⟩ := hrel
          by_cases him : i < rl
          · have gi : (i : Int) < (rl : Int) := by omega
            have hRl : (rwX rs).length = rl := by rw [rwX_len]; exact HRL.out
            obtain ⟨⟨kd, nm, rt⟩, hx⟩ : ∃ x, (rwX rs)[i]? = some x := ⟨_, List.getElem?_eq_getElem (by omega)⟩
            have RW := S3.out.on J1.out
            obtain ⟨rb, ro, rfl, -⟩ := RW.at him
            obtain ⟨c0, c1, c2⟩ := rl_cell RW him hx
            have c0 : wr.cell? ⟨rb, ro + i * 3, none⟩ = some (.string ⟨kd.toArray⟩) := c0
            have c1 : wr.cell? ⟨rb, ro + i * 3 + 1, none⟩ = some (.string ⟨nm.toArray⟩) := c1
            have c2 : wr.cell? ⟨rb, ro + i * 3 + 2, none⟩ = some (.int .i64 rt) := c2
            have hsc := World.block_lt_of_cell? wr _ c0
            obtain ⟨w9, hw9, SB, b9⟩ : ∃ w9, wr.alloc (.cells #[.string { data := #[] }, .string { data := #[] }, .int .i64 0] 60) = w9 ∧ Box w9 wr.heap.size [.string { data := #[] }, .string { data := #[] }, .int .i64 0] ∧ Below wr.heap.size wr w9 := ⟨_, rfl, Box.new _ _ [.string { data := #[] }, .string { data := #[] }, .int .i64 0], (Below.refl _ _).alloc (Nat.le_refl _) _⟩
            obtain ⟨w10, hw10, X10, ON10⟩ := st3x SB (.string ⟨kd.toArray⟩) (.string ⟨nm.toArray⟩) (.int .i64 rt)
            have b10 : Below wr.heap.size wr w10 := ON10.below (Nat.le_refl _) b9
            obtain ⟨u0, u1, u2⟩ := bx3 X10
            have hs10 := X10.1
            obtain ⟨s0, s1, s2⟩ := bx3 SB
            obtain ⟨m0, m1, m2⟩ := bx3f SB
            have hs9 := SB.1
            have B10 : Hid (Below w7.heap.size w7 w10) := Lib.hid (below_step J1.out b10)
            have HW10 := Lib.hid hw10; have HX := Lib.hid hx
            clear RW SB X10 ON10 b9 b10 hw10 J1 hRl hx
            by_cases hnm : nm = [108, 111, 110, 101, 108, 121]
            · subst hnm
              have AW := Lib.hid (aw11_any w10 (HT7.out.on B10.out))
              clear HX J2
              go_upto_region 15 with fail
              rw [HW10.out]
              clear HW10 hw9 s0 s1 s2 m0 m1 m2 hs9 c0 c1 c2 hsc
              go_wp2_with (go_at_call 8; refine AW.out.mono ?_)
              intro e8 w8 h8
              obtain ⟨rfl, b8⟩ := h8
              have B8 := Lib.hid (below_step (below_step B7.out B10.out) b8)
              clear b8 AW
              go_wp2_with fail
              exact FIN.out _ B8.out
            · have ho : (nm == [108, 111, 110, 101, 108, 121]) = false := beq_eq_false_iff_ne.2 hnm
              have HN : Hid (∀ y ∈ (rwX rs).take (i + 1), y.2.1 ≠ loneW) := Lib.hid (take_noO J2.out HX.out hnm)
              clear hnm HX J2
              go_upto_region 15 with fail
              rw [HW10.out]
              clear HW10 hw9 s0 s1 s2 m0 m1 m2 hs9 c0 c1 c2 hsc
              go_wp2_with fail
              exact ⟨⟨i + 1, rfl, by omega, B10, HN⟩, by simp [intOf]; omega⟩
          · obtain rfl : i = rl := by omega
            have gi : ¬ (i : Int) < (i : Int) := by omega
            have HNR : Hid (∀ y ∈ rwX rs, y.2.1 ≠ loneW) := Lib.hid (fun y hy => J2.out y (by rw [List.take_of_length_le (by rw [rwX_len]; have := HRL.out; omega)]; exact hy))
            obtain ⟨wq, hwq⟩ : ∃ wq, wq = wr := ⟨_, rfl⟩
            subst hwq
            have BQ := Lib.hid J1.out
            have h1 := no_rows HNR.out; have h2 := no_nms HFT.out.wf HNX.out
            obtain ⟨t2, hp2⟩ := more_parse HP.out (by rw [HRL.out]; omega)
            rw [← more_data] at hp2
            have hs2 : (s ++ ({ data := #[10, 108, 101, 116, 32, 108, 111, 110, 101, 108, 121, 32, 61, 32, 49, 59] } : ByteArray)).size ≤ 416 := by rw [ByteArray.size_append]; have e : ({ data := #[10, 108, 101, 116, 32, 108, 111, 110, 101, 108, 121, 32, 61, 32, 49, 59] } : ByteArray).size = 16 := rfl; omega
            have hfit2 := fit_500 hp2 (by rw [Array.length_toList]; show (s ++ ({ data := #[10, 108, 101, 116, 32, 108, 111, 110, 101, 108, 121, 32, 61, 32, 49, 59] } : ByteArray)).size ≤ 500; omega)
            have PR := Lib.hid (tparse_fit hp2 (by omega) wq (rl := i + 1) (sz := j + 1) (by rw [List.length_append, HRL.out]; rfl) (by rw [size_snoc, HSZ.out]; rfl))
            have HFT2 := Lib.hid hfit2
            have hch := lone_chk h1 h2
            rw [HRL.out] at hch
            have HCH := Lib.hid hch
            clear h1 h2 hp2 hs2 hfit2 hch J1 J2 HNR HNX him hi HP HSL
            go_wp2_with (go_at_call 10; refine PR.out.mono ?_)
            intro e8 w8 h8
            obtain ⟨A8, ca8, B8, cb8, rfl, hcb8, s5, s6, b8⟩ := h8
            obtain ⟨w9, hw9, YB, b9⟩ : ∃ w9, w8.alloc (.cells #[.slice none 0 0, .slice none 0 0] 32) = w9 ∧ Box w9 w8.heap.size [.slice none 0 0, .slice none 0 0] ∧ Below w8.heap.size w8 w9 := ⟨_, rfl, Box.new _ _ [.slice none 0 0, .slice none 0 0], (Below.refl _ _).alloc (Nat.le_refl _) _⟩
            obtain ⟨w10, hw10, Y10, ON10⟩ := store2 YB (.slice A8 (i + 1 : Nat) ca8) (.slice B8 (j + 1 : Nat) cb8)
            have b10 := ON10.below (Nat.le_refl _) b9
            have b7 := below_step BQ.out (below_step b8 b10)
            have B10 := Lib.hid (below_step B7.out b7)
            have HT10 := HT.out.on B10.out
            have S5 := Lib.hid (s5.on b10); have S6 := Lib.hid (s6.on b10); have HCB8 := Lib.hid hcb8
            have c1 := kcheck_any (rc := ca2) (c := cb2) HFT.out (S3.out.on b7) (S4.out.on b7) HCB.out HT10
            obtain ⟨G, hG⟩ : ∃ G, chkA i (xpX rs) (rwX rs) (POrd.ans (nmR (rwX rs)) (POrd.hangs rs)) = G := ⟨_, rfl⟩
            rw [hG] at c1
            have HCH := Lib.hid (by have h := HCH.out; rw [hG] at h; exact h)
            obtain ⟨la, ka, p, e⟩ := G
            have HEN : Hid ((e = 0 ∧ la.length = i ∧ ka.length = i) ∨ (e ≠ 0 ∧ la = [] ∧ ka = [])) := Lib.hid (by rw [← HRL.out] at hG; have h := chkA_ends hG; rw [HRL.out] at h; exact h)
            have C1 := Lib.hid c1
            clear c1 hG
            have p10 := HY7.out.on b7
            have HY10 := Lib.hid Y10
            obtain ⟨y0, y1⟩ := px2 YB
            obtain ⟨z0, z1⟩ := px2f YB
            have hs9 := YB.1
            obtain ⟨q0, q1⟩ := px2 p10
            have hs10 := p10.1
            have HW10 := Lib.hid hw10
            clear YB Y10 ON10 b8 b9 b10 hw10 PR s5 s6 hcb8 b7 HT10 p10 BQ HY7 S3 S4 HT7 B7
            go_upto_region 19 with fail
            rw [HW10.out]
            clear HW10 hw9 y0 y1 z0 z1 hs9
            go_wp2_with (go_at_call 13; refine C1.out.mono ?_)
            intro e11 w11 h11
            obtain ⟨GA, gc, GB, gd, rfl, sa, sb, -, -, -, -, b11⟩ := h11
            simp only [] at sa sb ⊢
            have B11 := Lib.hid (below_step B10.out b11)
            have p11 := HY10.out.on b11
            have HA := Lib.hid sa; have HB := Lib.hid sb
            have C2 := Lib.hid (by have h := kcheck_any (rc := ca8) (c := cb8) HFT2.out (S5.out.on b11) (S6.out.on b11) HCB8.out (HT.out.on B11.out); rw [HCH.out] at h; exact h)
            clear q0 q1 hs10 C1 b11 sa sb B10 HY10 S5 S6 HCH HCB8 HFT HFT2
            obtain ⟨q0, q1⟩ := px2 p11
            have hs11 := p11.1
            clear p11
            cases e with
            | succ e =>
              obtain ⟨-, rfl, rfl⟩ := HEN.out.resolve_left (fun h => absurd h.1 (Nat.succ_ne_zero _))
              go_wp2_with (go_at_call 13; refine C2.out.mono ?_)
              intro e12 w12 h12
              obtain ⟨HA2, hc, HB2, hd, rfl, -, -, -, -, -, -, b12⟩ := h12
              simp only [moreC]
              have B12 := Lib.hid (below_step B11.out b12)
              have AW := Lib.hid (aw11_any w12 (HT.out.on B12.out))
              have g1 : (((e + 1 : Nat) : Int) != ((e + 1 : Nat) : Int)) = false := by simp
              have g2 : ((p : Int) != (p : Int)) = false := by simp
              have g3 : (((e + 1 : Nat) : Int) != 0) = true := by simp; omega
              clear b12 q0 q1 hs11 C2 B11 HA HB HEN
              go_wp2_with (go_at_call 8; refine AW.out.mono ?_)
              intro e13 w13 h13
              obtain ⟨rfl, b13⟩ := h13
              have B13 := Lib.hid (below_step B12.out b13)
              clear b13 AW
              go_wp2_with fail
              exact FIN.out _ B13.out
            | zero =>
              obtain ⟨-, hla, hka⟩ := HEN.out.resolve_right (fun h => h.1 rfl)
              go_wp2_with (go_at_call 13; refine C2.out.mono ?_)
              intro e12 w12 h12
              obtain ⟨HA2, hc, HB2, hd, rfl, sa2, sb2, -, hc1, -, hd1, b12⟩ := h12
              simp only [moreC, List.length_append, List.length_singleton] at sa2 sb2 hc1 hd1 ⊢
              have ea : plI (la ++ [i]) = plI la ++ [((i : Nat) : Int)] := by unfold plI; simp
              rw [ea] at sa2
              have lpa : (plI la).length = i := by unfold plI; rw [List.length_map]; exact hla
              rw [hla] at sa2 hc1 ⊢
              rw [hka] at sb2 hd1 ⊢
              obtain ⟨ab2, ao2, x1, rfl, hx1, ca1⟩ := int_at sa2 (Nat.lt_succ_self i)
              obtain ⟨bb2, bo2, x2, rfl, hx2, ca2'⟩ := int_at sb2 (Nat.lt_succ_self i)
              rw [List.getElem?_append_right (by omega), lpa, Nat.sub_self] at hx1
              rw [List.getElem?_append_right (by omega), hka, Nat.sub_self] at hx2
              obtain rfl : ((i : Nat) : Int) = x1 := Option.some.inj hx1
              obtain rfl : (3 : Int) = x2 := Option.some.inj hx2
              have B12 := Lib.hid (below_step B11.out b12)
              have SA := HA.out; have SB := HB.out
              simp only [hla] at SA
              simp only [hka] at SB
              have CM1 := Lib.hid (same_eq (ca := hc) (cb := gc) (slx_takeO (l := plI la) sa2 lpa) (SA.on b12) (by omega))
              have HB1 := Lib.hid (slx_takeO (l := ka) sb2 hka); have HB2' := Lib.hid (SB.on b12)
              have HC1 := Lib.hid ca1; have HC2 := Lib.hid ca2'
              have g1 : ((p : Int) != (p : Int)) = false := by simp
              have gl1 : (i : Int) ≤ (hc : Int) := by omega
              have gl2 : (i : Int) ≤ (hd : Int) := by omega
              have gl3 : (i : Int) < (i : Int) + 1 := by omega
              have hsa := World.block_lt_of_cell? w12 _ ca1
              clear b12 q0 q1 hs11 C2 B11 HA HB HEN sa2 sb2 hx1 hx2 SA SB ea lpa
              go_wp2_with (go_at_call 15; refine CM1.out.mono ?_)
              intro e13 w13 h13
              obtain ⟨rfl, b13⟩ := h13
              have B13 := Lib.hid (below_step B12.out b13)
              have ca1 := (b13.cell (World.block_lt_of_cell? w12 _ HC1.out)).trans HC1.out
              have ca2' := (b13.cell (World.block_lt_of_cell? w12 _ HC2.out)).trans HC2.out
              have hsa := World.block_lt_of_cell? w13 _ ca1
              have HC2 := Lib.hid ca2'
              have CM2 := Lib.hid (same_eq (ca := hd) (cb := gd) (HB1.out.on b13) (HB2'.out.on b13) (by omega))
              clear b13 B12 CM1 HC1 ca2' HB1 HB2'
              go_wp2_with (go_at_call 15; refine CM2.out.mono ?_)
              intro e14 w14 h14
              obtain ⟨rfl, b14⟩ := h14
              have B14 := Lib.hid (below_step B13.out b14)
              have ca2' := (b14.cell (World.block_lt_of_cell? w13 _ HC2.out)).trans HC2.out
              have hsb := World.block_lt_of_cell? w14 _ ca2'
              have AW := Lib.hid (aw11_any w14 (HT.out.on B14.out))
              clear b14 B13 CM2 HC2 ca1 hsa
              go_wp2_with (go_at_call 8; refine AW.out.mono ?_)
              intro e15 w15 h15
              obtain ⟨rfl, b15⟩ := h15
              have B15 := Lib.hid (below_step B14.out b15)
              clear b15 AW
              go_wp2_with fail
              exact FIN.out _ B15.out
end Go.Proofs.YtdkcdgjpcojdfaaGreatDoor
