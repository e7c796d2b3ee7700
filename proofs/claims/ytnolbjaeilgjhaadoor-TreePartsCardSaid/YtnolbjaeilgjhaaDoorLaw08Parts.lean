/-
  TreeParts: each row of a program's expressions but the roots is a part of just one, that stands behind it.
-/
import Derived.Test.YtnolbjaeilgjhaaDoorLaw08Awake
import Derived.Test.YtnolbjaeilgjhaaDoorTreeParts
import Derived.Test.YtnolbjaeilgjhaaDoorRwKit
import Derived.Deep.DeepCutAuto
namespace Go.Proofs.YtnolbjaeilgjhaaDoor
open Go.RowKit
open PTree (R Ex Tr Rl Row partsOf usedOf allL)


/-- A slice of places, in a block behind U, or none. -/
def Pt (w : World) (U : Nat) (v : Value) (l : List Nat) : Prop := ∃ P c, v = .slice P l.length c ∧ (l = [] ∨ ∃ b, P = some ⟨b, 0, none⟩ ∧ U < b ∧ ∀ j x, l[j]? = some x → w.cell? ⟨b, j, none⟩ = some (.int .i64 (x : Nat)))
theorem pt_nil (w : World) (U : Nat) : Pt w U (.slice none 0 0) [] := ⟨none, 0, rfl, .inl rfl⟩
theorem pt_new (w : World) {U : Nat} (hU : U < w.heap.size) (t : TypeId) (l : List Nat) : Pt (w.alloc (.cells (l.map fun x => Value.int .i64 (x : Nat)).toArray t)) U (.slice (some ⟨w.heap.size, 0, none⟩) l.length l.length) l :=
  ⟨_, _, rfl, .inr ⟨_, rfl, hU, fun j x h => (Box.new w t (l.map fun x => Value.int .i64 (x : Nat))).c j (by simp [h])⟩⟩
theorem Pt.set {w : World} {U : Nat} {v : Value} {l : List Nat} (h : Pt w U v l) (t : Nat) (z : Value) : Pt (w.setCell ⟨U, t, none⟩ z) U v l := by
  obtain ⟨P, c, rfl, h⟩ := h
  refine ⟨P, c, rfl, ?_⟩
  rcases h with h | ⟨b, rfl, hb, h⟩
  · exact .inl h
  · exact .inr ⟨b, rfl, hb, fun j x e => by rw [World.cell?_setCell_far _ _ _ _ (by simp; omega)]; exact h j x e⟩
theorem pt_at {w : World} {U : Nat} {P : Option Addr} {n c : Nat} {l : List Nat} (h : Pt w U (.slice P n c) l) {q : Nat} (hq : q < l.length) : ∃ b, P = some ⟨b, 0, none⟩ ∧ w.cell? ⟨b, q, none⟩ = some (.int .i64 (l[q] : Nat)) := by
  obtain ⟨P', c', e, h⟩ := h
  cases e
  rcases h with h | ⟨b, rfl, _, h⟩
  · subst h; cases hq
  · exact ⟨b, rfl, h q _ (List.getElem?_eq_getElem hq)⟩
theorem parts_neg' {y : Ex} (e : y.op = [110, 101, 103]) : partsOf y = [y.a] := by unfold PTree.partsOf; rw [if_pos e]
theorem parts_bin' {y : Ex} (h : y.op ∈ PTree.opsL) : partsOf y = [y.a, y.b] := by
  obtain ⟨op, n, v, a, b, c⟩ := y; exact PTree.parts_bin h a b c n v
theorem parts_if' {y : Ex} (e : y.op = [105, 102]) : partsOf y = [y.a, y.b, y.c] := by obtain ⟨op, n, v, a, b, c⟩ := y; subst e; rfl
theorem parts_none' {y : Ex} (e : y.op = [119, 104, 111, 108, 101] ∨ y.op = [97, 109, 111, 117, 110, 116] ∨ y.op = [114, 97, 116, 101] ∨ y.op = [110, 97, 109, 101]) : partsOf y = [] := by
  obtain ⟨op, n, v, a, b, c⟩ := y
  rcases e with e | e | e | e <;> (simp only [] at e; subst e; rfl)
theorem rw_count {w : World} {H m t : Nat} {l : List Nat} (h : Rw w H m (usedOf m l)) (ht : t < m) : w.cell? ⟨H, t, none⟩ = some (.int .i64 (l.count t : Nat)) ∧ w.frozen? ⟨H, t, none⟩ = false := by
  obtain ⟨c, f⟩ := h.2 t ht
  refine ⟨?_, f⟩
  rw [c, show (usedOf m l).getD t 0 = (l.count t : Nat) by rw [List.getD, PTree.usedOf_get l ht]; rfl]
theorem rw_snoc {w : World} {H m t : Nat} {l : List Nat} (h : Rw w H m (usedOf m l)) (ht : t < m) : Rw (w.setCell ⟨H, t, none⟩ (.int .i64 ((l.count t : Nat) + 1 : Int))) H m (usedOf m (l ++ [t])) := by
  rw [← PTree.usedOf_snoc]; exact h.set ht _
theorem parts_few (x : Ex) : (partsOf x).length ≤ 3 := by unfold PTree.partsOf; (repeat' split) <;> simp
theorem flat_few : ∀ (l : List Ex), (l.flatMap partsOf).length ≤ 3 * l.length
  | [] => by simp
  | x :: l => by have h1 := parts_few x; have h2 := flat_few l; simp only [List.flatMap_cons, List.length_append, List.length_cons]; omega
theorem take_snocP {α : Type} {l : List α} {k : Nat} {y : α} (h : k < l.length) (e : l[k] = y) : l.take (k + 1) = l.take k ++ [y] := by rw [List.take_succ_eq_append_getElem h, e]

set_option maxRecDepth 100000 in
set_option maxHeartbeats 6400000 in
theorem tparts_walk (s : ByteArray) (w : World) (hs : s.size ≤ maxLen) :
    Calls Tryd.prog 4 #[.string s] w fun e w' => e = .returned (.bool true) ∧ Below w.heap.size w w' := by
  unfold maxLen at hs
  by_cases h6 : 600 < s.size
  · have hl : (600 : Int) < (s.size : Int) := by omega
    go_enter Tryd.func4, Tryd.ntmps4
    go_wp2_with fail
    refine (awake_any _).mono ?_
    rintro _ w1 ⟨rfl, b⟩
    have B := Lib.hid b
    clear b
    go_wp2_with fail
    go_ret
    exact ⟨rfl, B.out⟩
  · have hl : ¬ (600 : Int) < (s.size : Int) := by omega
    obtain ⟨r, hr⟩ : ∃ r, PTree.parse s.data.toList = r := ⟨_, rfl⟩
    have HA := tparse_any s w (by omega)
    rw [hr] at HA
    cases r with
    | none =>
      have HP := Lib.hid HA
      clear HA
      go_enter Tryd.func4, Tryd.ntmps4
      go_wp2_with fail
      refine (HP.out).mono ?_
      rintro _ w1 ⟨_, h⟩
      exact h.elim
    | some r =>
      cases r with
      | bad k q =>
        have HP := Lib.hid HA
        clear HA
        go_enter Tryd.func4, Tryd.ntmps4
        go_wp2_with fail
        refine (HP.out).mono ?_
        rintro _ w1 ⟨b, rfl, hk⟩
        have hk1 : ((k : Int) != 0) = true := by rw [bne_iff_ne]; omega
        have B := Lib.hid (below_step b ((Below.refl w1.heap.size w1).alloc (Nat.le_refl _) (.cells #[.slice none 0 0, .slice none 0 0] 26)))
        clear b HP hr hk
        go_wp2_with fail
        refine (awake_any _).mono ?_
        rintro _ w2 ⟨rfl, b⟩
        have B2 := Lib.hid (below_step B.out b)
        clear b
        go_wp2_with fail
        go_ret
        exact ⟨rfl, B2.out⟩
      | ok t rs =>
        clear HA
        have hO := PTree.parse_ops hr
        have hm0 := PTree.parse_fewP hr
        rw [Array.length_toList] at hm0
        have hm0 : PTree.sizeOf rs + rs.length ≤ s.size := hm0
        have hm1 : PTree.sizeOf rs + rs.length ≤ 600 := by omega
        have HP := Lib.hid (tparse_ok hr (by omega))
        obtain ⟨E, hE⟩ : ∃ E, PTree.exprsOf 0 rs = E := ⟨_, rfl⟩
        obtain ⟨Q, hQ⟩ : ∃ Q, PTree.rowsOf 0 rs = Q := ⟨_, rfl⟩
        obtain ⟨m, hm⟩ : ∃ m, PTree.sizeOf rs = m := ⟨_, rfl⟩
        obtain ⟨n, hn⟩ : ∃ n, rs.length = n := ⟨_, rfl⟩
        have hEm : E.length = m := by rw [← hE, PTree.exprsOf_len, hm]
        have hQn : Q.length = n := by rw [← hQ, PTree.rowsOf_len, hn]
        have HAL := Lib.hid (PTree.rules_all rs hO 0)
        have HAH := Lib.hid (PTree.rules_ahead rs hO 0)
        have HRO := Lib.hid (PTree.rows_roots rs 0)
        have HUE := Lib.hid (fun k => PTree.used_end hO (n := k))
        rw [hE] at HAL HAH HUE
        rw [hQ] at HRO HUE
        rw [hm] at HRO HUE hm1
        rw [hn] at hm1
        rw [hE, hQ, hm, hn] at HP
        have HEM := Lib.hid hEm; have HQN := Lib.hid hQn
        have hmk := fun W => make_row m (by omega) W
        have gm : (m : Int) ≤ 600 := by omega
        clear hE hQ hm hn hEm hQn hO hm0 hr
        go_enter Tryd.func4, Tryd.ntmps4
        go_wp2_with fail
        refine (HP.out _).mono ?_
        rintro _ w1 ⟨A, ca, B, cb, rfl, s1, s2, b1⟩
        obtain ⟨w2, hw2, PB, b2⟩ : ∃ w2, w1.alloc (.cells #[.slice A n ca, .slice B m cb] 26) = w2 ∧ Box w2 w1.heap.size [.slice A n ca, .slice B m cb] ∧ Below w1.heap.size w1 w2 := ⟨_, rfl, Box.new _ _ [.slice A n ca, .slice B m cb], (Below.refl _ _).alloc (Nat.le_refl _) _⟩
        have S1 := Lib.hid (s1.on b2); have S2 := Lib.hid (s2.on b2)
        have B2 := Lib.hid (below_step b1 b2)
        have PB := Lib.hid PB
        have HW2 := Lib.hid hw2
        obtain ⟨G, hG⟩ : ∃ G, w1.heap.size = G := ⟨_, rfl⟩
        rw [hG] at PB
        have HG := Lib.hid hG
        obtain ⟨x0, x1⟩ := box2 PB.out
        have hsx := PB.out.1
        clear s1 s2 b1 b2 hw2 hG HP
        go_upto_region 4 with fail
        rw [HW2.out]
        (try rw [HG.out])
        clear HW2 HG
        go_wp2_with fail
        obtain ⟨w3, hw3, UR, b3, hs3⟩ : ∃ w3, w2.alloc (.cells (madeCells #[.int .i64 0] m) 3) = w3 ∧ Rw w3 w2.heap.size m (List.replicate m 0) ∧ Below w2.heap.size w2 w3 ∧ w3.heap.size = w2.heap.size + 1 := ⟨_, rfl, made_rw w2 m, (Below.refl _ _).alloc (Nat.le_refl _) _, by simp⟩
        rw [hw3]
        obtain ⟨U, hU⟩ : ∃ U, w2.heap.size = U := ⟨_, rfl⟩
        rw [hU] at UR hs3 b3 ⊢
        rw [← PTree.usedOf_nil] at UR
        have UR3 := Lib.hid UR; have BU3 := Lib.hid b3; have HU := Lib.hid hU; have HS3 := Lib.hid (show U < w3.heap.size by omega)
        clear hw3 UR b3 hs3 hU x0 x1 hsx
        go_loopw [46] (fun i wr => ∃ k : Nat, k ≤ m ∧ i = .int .i64 k ∧ Hid (Rw wr U m (usedOf m ((E.take k).flatMap partsOf))) ∧ Hid (Below U w2 wr) ∧ Hid (U < wr.heap.size)) (fun i _ => m - (intOf i).toNat)
        case atStart => exact ⟨0, Nat.zero_le _, rfl, UR3, BU3, HS3⟩
        case round =>
          clear UR3 BU3 HS3
          obtain ⟨k, hk, rfl, I1, I2, I3⟩ := hrel
          by_cases hlt : k < m
          · have IB := S2.out.on (by rw [HU.out]; exact I2.out)
            obtain ⟨b, off, rfl, hc⟩ := IB.at hlt
            have hkl : k < E.length := by rw [HEM.out]; exact hlt
            obtain ⟨⟨o, nm, vl, ya, yb, yc⟩, hy⟩ : ∃ y, E[k] = y := ⟨_, rfl⟩
            have hd := hc k hkl
            rw [hy] at hd
            have c0 : wr.cell? ⟨b, off + k * 6, none⟩ = some (.string ⟨o.toArray⟩) := by simpa [exR] using hd 0 _ rfl
            have c1 : wr.cell? ⟨b, off + k * 6 + 1, none⟩ = some (.string ⟨nm.toArray⟩) := hd 1 _ rfl
            have c2 : wr.cell? ⟨b, off + k * 6 + 2, none⟩ = some (.int .i64 vl) := hd 2 _ rfl
            have c3 : wr.cell? ⟨b, off + k * 6 + 3, none⟩ = some (.int .i64 ya) := hd 3 _ rfl
            have c4 : wr.cell? ⟨b, off + k * 6 + 4, none⟩ = some (.int .i64 yb) := hd 4 _ rfl
            have c5 : wr.cell? ⟨b, off + k * 6 + 5, none⟩ = some (.int .i64 yc) := hd 5 _ rfl
            have hsb := World.block_lt_of_cell? wr _ c0
            have HOP : Hid (o ∈ allL) := Lib.hid (HAL.out (⟨o, nm, vl, ya, yb, yc⟩ : Ex) (by rw [← hy]; exact List.getElem_mem hkl))
            have HPA : Hid (∀ p ∈ partsOf (⟨o, nm, vl, ya, yb, yc⟩ : Ex), p < k) := Lib.hid (fun p hp => by have := HAH.out k (⟨o, nm, vl, ya, yb, yc⟩ : Ex) (by rw [List.getElem?_eq_getElem hkl, hy]) p hp; omega)
            have HTK : Hid ((E.take (k + 1)).flatMap partsOf = (E.take k).flatMap partsOf ++ partsOf (⟨o, nm, vl, ya, yb, yc⟩ : Ex)) := Lib.hid (by rw [take_snocP hkl hy, List.flatMap_append, List.flatMap_singleton])
            obtain ⟨w4, hw4, YB, b4⟩ : ∃ w4, wr.alloc (.cells (exC (⟨o, nm, vl, ya, yb, yc⟩ : Ex)).toArray 41) = w4 ∧ Box w4 wr.heap.size (exC (⟨o, nm, vl, ya, yb, yc⟩ : Ex)) ∧ Below wr.heap.size wr w4 := ⟨_, rfl, Box.new _ _ _, (Below.refl _ _).alloc (Nat.le_refl _) _⟩
            obtain ⟨y0, y1, y2, y3, y4, y5⟩ : w4.cell? ⟨wr.heap.size, 0, none⟩ = some (.string ⟨o.toArray⟩) ∧ w4.cell? ⟨wr.heap.size, 1, none⟩ = some (.string ⟨nm.toArray⟩) ∧ w4.cell? ⟨wr.heap.size, 2, none⟩ = some (.int .i64 vl) ∧ w4.cell? ⟨wr.heap.size, 3, none⟩ = some (.int .i64 ya) ∧ w4.cell? ⟨wr.heap.size, 4, none⟩ = some (.int .i64 yb) ∧ w4.cell? ⟨wr.heap.size, 5, none⟩ = some (.int .i64 yc) := box6 YB
            have hsy := YB.1
            have R4 := Lib.hid (I1.out.on b4); have B4 := Lib.hid (I2.out.trans (b4.mono (Nat.le_of_lt I3.out)))
            have U4 : Hid (U < w4.heap.size) := Lib.hid (Nat.lt_trans I3.out hsy)
            have hw4 : wr.alloc (.cells #[.string ⟨o.toArray⟩, .string ⟨nm.toArray⟩, .int .i64 vl, .int .i64 ya, .int .i64 yb, .int .i64 yc] 41) = w4 := hw4
            have HW4 := Lib.hid hw4
            clear hc hd hw4 b4 YB I1 I2 I3 IB hy
            go_upto_region 10 with fail
            rw [HW4.out]
            clear HW4 c0 c1 c2 c3 c4 c5 hsb
            go_upto_block 2 with fail
            go_cut [9] (fun v wx => Hid (Pt wx U v (partsOf (⟨o, nm, vl, ya, yb, yc⟩ : Ex))) ∧ Hid (Below w4.heap.size w4 wx))
            case first =>
              have hop := HOP.out
              have al : ∀ o, Below w4.heap.size w4 (w4.alloc o) := fun o => (Below.refl _ _).alloc (Nat.le_refl _) o
              have AL := Lib.hid al
              clear al HOP HPA HTK B4 R4 HAL HAH HRO HUE HEM HQN S1 S2 HU hmk
              simp only [PTree.allL, List.mem_append, List.mem_cons, List.not_mem_nil, or_false] at hop
              rcases hop with (rfl | rfl | rfl | rfl | rfl | rfl) | h
              · go_wp2_with fail
                go_meet
                exact ⟨Lib.hid (by rw [parts_neg' (y := ⟨[110, 101, 103], nm, vl, ya, yb, yc⟩) rfl]; exact pt_new w4 U4.out _ [ya]), Lib.hid (AL.out _)⟩
              · go_wp2_with fail
                go_meet
                exact ⟨Lib.hid (by rw [parts_if' (y := ⟨[105, 102], nm, vl, ya, yb, yc⟩) rfl]; exact pt_new w4 U4.out _ [ya, yb, yc]), Lib.hid (AL.out _)⟩
              iterate 4
                · go_wp2_with fail
                  go_meet
                  exact ⟨Lib.hid (pt_nil _ _), Lib.hid (Below.refl _ _)⟩
              · have HE : Hid (partsOf (⟨o, nm, vl, ya, yb, yc⟩ : Ex) = [ya, yb]) := Lib.hid (parts_bin' h)
                simp only [PTree.opsL, List.mem_cons, List.not_mem_nil, or_false] at h
                rcases h with rfl | rfl | rfl | rfl | rfl | rfl | rfl | rfl | rfl | rfl | rfl
                all_goals
                  go_wp2_with fail
                  go_meet
                  exact ⟨Lib.hid (by rw [HE.out]; exact pt_new w4 U4.out _ [ya, yb]), Lib.hid (AL.out _)⟩
            case rest =>
              obtain ⟨hP, hB⟩ := hcut
              obtain ⟨l, hl⟩ : ∃ l, partsOf (⟨o, nm, vl, ya, yb, yc⟩ : Ex) = l := ⟨_, rfl⟩
              rw [hl] at HPA HTK hP
              have hfl : l.length ≤ 3 := by rw [← hl]; exact parts_few _
              obtain ⟨P, pc, rfl, hp⟩ := hP.out
              have HP4 : Hid (Pt wc U (.slice P l.length pc) l) := Lib.hid ⟨P, pc, rfl, hp⟩
              obtain ⟨X, hX⟩ : ∃ X, (E.take k).flatMap partsOf = X := ⟨_, rfl⟩
              rw [hX] at R4 HTK
              have hXl : X.length ≤ 1800 := by rw [← hX]; have h1 := flat_few (E.take k); have h2 := List.length_take_le k E; omega
              have R5 := Lib.hid (R4.out.on hB.out)
              have B5 := Lib.hid (B4.out.trans (hB.out.mono (Nat.le_of_lt U4.out)))
              have U5 : Hid (U < wc.heap.size) := Lib.hid (Nat.lt_of_lt_of_le U4.out hB.out.size)
              have gl : (l.length : Int) ≤ 3 := by omega
              clear hP hB hp hl hX hw4 y0 y1 y2 y3 y4 y5 hsy R4 B4 U4 HOP
              go_wp2_with fail
              go_loopw [86] (fun i wx => ∃ q : Nat, q ≤ l.length ∧ i = .int .i64 q ∧ Hid (Rw wx U m (usedOf m (X ++ l.take q))) ∧ Hid (Pt wx U (.slice P l.length pc) l) ∧ Hid (Below U w2 wx) ∧ Hid (U < wx.heap.size)) (fun i _ => l.length - (intOf i).toNat)
              case atStart => exact ⟨0, Nat.zero_le _, rfl, (show Hid _ from by rw [List.take_zero, List.append_nil]; exact R5.out), HP4, B5, U5⟩
              case round =>
                clear R5 HP4 B5 U5
                obtain ⟨q, hq, rfl, I1, I2, I3, I4⟩ := hrel
                by_cases hql : q < l.length
                · obtain ⟨pb, rfl, cp⟩ := pt_at I2.out hql
                  obtain ⟨p, hp⟩ : ∃ p, l[q] = p := ⟨_, rfl⟩
                  rw [hp] at cp
                  have hpk : p < k := HPA.out p (by rw [← hp]; exact List.getElem_mem hql)
                  have hpm : p < m := by omega
                  obtain ⟨cu, fu⟩ := rw_count I1.out (t := p) hpm
                  have hz2 : (X ++ l.take q).count p ≤ 1900 := by
                    have h1 := List.count_le_length (a := p) (l := X ++ l.take q)
                    rw [List.length_append] at h1
                    have h2 := List.length_take_le q l
                    omega
                  have FIN : Hid (Rw (wr.setCell ⟨U, p, none⟩ (.int .i64 (((X ++ l.take q).count p : Nat) + 1 : Int))) U m (usedOf m (X ++ l.take (q + 1))) ∧ Pt (wr.setCell ⟨U, p, none⟩ (.int .i64 (((X ++ l.take q).count p : Nat) + 1 : Int))) U (.slice (some ⟨pb, 0, none⟩) l.length pc) l ∧ Below U w2 (wr.setCell ⟨U, p, none⟩ (.int .i64 (((X ++ l.take q).count p : Nat) + 1 : Int))) ∧ U < (wr.setCell ⟨U, p, none⟩ (.int .i64 (((X ++ l.take q).count p : Nat) + 1 : Int))).heap.size) := Lib.hid (by
                    refine ⟨?_, I2.out.set _ _, I3.out.setCell (Nat.le_refl _) _, by simp only [World.size_setCell]; exact I4.out⟩
                    rw [take_snocP hql hp, ← List.append_assoc]
                    exact rw_snoc I1.out hpm)
                  obtain ⟨z, hz⟩ : ∃ z, (X ++ l.take q).count p = z := ⟨_, rfl⟩
                  rw [hz] at cu hz2 FIN
                  have hbp := World.block_lt_of_cell? wr _ cp
                  have hbu := I4.out
                  have g1 : ¬ (p : Int) < 0 := by omega
                  have g2 : ¬ (k : Int) ≤ (p : Int) := by omega
                  clear I1 I2 I3 I4 hz hp
                  go_wp2_with fail
                  exact ⟨⟨q + 1, by omega, rfl, Lib.hid FIN.out.1, Lib.hid FIN.out.2.1, Lib.hid FIN.out.2.2.1, Lib.hid FIN.out.2.2.2⟩, by simp [intOf]; omega⟩
                · obtain rfl : q = l.length := by omega
                  have FIN : Hid (Rw wr U m (usedOf m ((E.take (k + 1)).flatMap partsOf))) := Lib.hid (by rw [HTK.out]; have h := I1.out; rwa [List.take_length] at h)
                  clear I1 I2 hq hql
                  go_wp2_with fail
                  exact ⟨⟨k + 1, by omega, rfl, FIN, I3, I4⟩, by simp [intOf]; omega⟩
          · obtain rfl : k = m := by omega
            have hEk : E.take k = E := List.take_of_length_le (by rw [HEM.out]; exact Nat.le_refl _)
            obtain ⟨X, hX⟩ : ∃ X, E.flatMap partsOf = X := ⟨_, rfl⟩
            have hXl : X.length ≤ 1800 := by rw [← hX]; have h1 := flat_few E; have h2 := HEM.out; omega
            rw [hX] at HUE
            have R5 : Hid (Rw wr U k (usedOf k X)) := Lib.hid (by have h := I1.out; rwa [hEk, hX] at h)
            have PBr := PB.out.on (by rw [HU.out]; exact I2.out : Below w2.heap.size w2 wr)
            obtain ⟨x0, x1⟩ := box2 PBr
            have hsx := PBr.1
            obtain ⟨wo, hwo⟩ : ∃ wo, wo = wr := ⟨_, rfl⟩
            subst hwo
            clear hEk hX I1 hlt hk S2 HAL HAH hmk PBr
            go_wp2_with fail
            clear x0 x1 hsx
            go_loopw [108] (fun i wx => ∃ q : Nat, q ≤ n ∧ i = .int .i64 q ∧ Hid (Rw wx U k (usedOf k (X ++ (Q.take q).map (fun y => y.root)))) ∧ Hid (Below U w2 wx) ∧ Hid (U < wx.heap.size)) (fun i _ => n - (intOf i).toNat)
            case atStart => exact ⟨0, Nat.zero_le _, rfl, (show Hid _ from by rw [List.take_zero, List.map_nil, List.append_nil]; exact R5.out), I2, I3⟩
            case round =>
              clear R5 I2 I3
              obtain ⟨q, hq, rfl, I1, I2, I3⟩ := hrel
              by_cases hqn : q < n
              · have IA := S1.out.on (by rw [HU.out]; exact I2.out)
                obtain ⟨b, off, rfl, hc⟩ := IA.at hqn
                have hql : q < Q.length := by rw [HQN.out]; exact hqn
                obtain ⟨⟨kd, nm, r⟩, hy⟩ : ∃ y, Q[q] = y := ⟨_, rfl⟩
                have hd := hc q hql
                rw [hy] at hd
                have c0 : wr.cell? ⟨b, off + q * 3, none⟩ = some (.string ⟨kd.toArray⟩) := by simpa [rowR] using hd 0 _ rfl
                have c1 : wr.cell? ⟨b, off + q * 3 + 1, none⟩ = some (.string ⟨nm.toArray⟩) := hd 1 _ rfl
                have c2 : wr.cell? ⟨b, off + q * 3 + 2, none⟩ = some (.int .i64 r) := hd 2 _ rfl
                have hsb := World.block_lt_of_cell? wr _ c0
                have hrk : r < k := by have := HRO.out ⟨kd, nm, r⟩ (by rw [← hy]; exact List.getElem_mem hql); simp only [] at this; omega
                have HTK : Hid (X ++ (Q.take (q + 1)).map (fun y => y.root) = (X ++ (Q.take q).map (fun y => y.root)) ++ [r]) := Lib.hid (by rw [take_snocP hql hy, List.map_append, List.append_assoc]; rfl)
                have hYl : (X ++ (Q.take q).map (fun y => y.root)).length ≤ 2400 := by
                  rw [List.length_append, List.length_map]; have h := List.length_take_le q Q; omega
                obtain ⟨Y, hY⟩ : ∃ Y, X ++ (Q.take q).map (fun y => y.root) = Y := ⟨_, rfl⟩
                rw [hY] at I1 HTK hYl
                obtain ⟨w4, hw4, YB, b4⟩ : ∃ w4, wr.alloc (.cells #[.string ⟨kd.toArray⟩, .string ⟨nm.toArray⟩, .int .i64 r] 43) = w4 ∧ Box w4 wr.heap.size [.string ⟨kd.toArray⟩, .string ⟨nm.toArray⟩, .int .i64 r] ∧ Below wr.heap.size wr w4 := ⟨_, rfl, Box.new _ _ [.string ⟨kd.toArray⟩, .string ⟨nm.toArray⟩, .int .i64 r], (Below.refl _ _).alloc (Nat.le_refl _) _⟩
                obtain ⟨y0, y1, y2⟩ := box3 YB
                have hsy := YB.1
                have R4 := Lib.hid (I1.out.on b4)
                have hUs := Nat.lt_trans I3.out hsy
                have B4 := I2.out.trans (b4.mono (Nat.le_of_lt I3.out))
                obtain ⟨cu, fu⟩ := rw_count R4.out (t := r) hrk
                have hz2 : Y.count r ≤ 2400 := Nat.le_trans List.count_le_length hYl
                have FIN : Hid (Rw (w4.setCell ⟨U, r, none⟩ (.int .i64 ((Y.count r : Nat) + 1 : Int))) U k (usedOf k (X ++ (Q.take (q + 1)).map (fun y => y.root))) ∧ Below U w2 (w4.setCell ⟨U, r, none⟩ (.int .i64 ((Y.count r : Nat) + 1 : Int))) ∧ U < (w4.setCell ⟨U, r, none⟩ (.int .i64 ((Y.count r : Nat) + 1 : Int))).heap.size) := Lib.hid (by
                  refine ⟨?_, B4.setCell (Nat.le_refl _) _, by simp only [World.size_setCell]; exact hUs⟩
                  rw [HTK.out]
                  exact rw_snoc R4.out hrk)
                obtain ⟨z, hz⟩ : ∃ z, Y.count r = z := ⟨_, rfl⟩
                rw [hz] at cu hz2 FIN
                have HW4 := Lib.hid hw4
                have g1 : ¬ (r : Int) < 0 := by omega
                have g2 : ¬ (k : Int) ≤ (r : Int) := by omega
                clear hc hd hw4 b4 YB I1 I2 I3 IA hy hz hY hYl R4 B4
                go_upto_region 39 with fail
                rw [HW4.out]
                clear HW4 c0 c1 c2 hsb
                go_wp2_with fail
                exact ⟨⟨q + 1, by omega, rfl, Lib.hid FIN.out.1, Lib.hid FIN.out.2.1, Lib.hid FIN.out.2.2⟩, by simp [intOf]; omega⟩
              · obtain rfl : q = n := by omega
                have hQq : Q.take q = Q := List.take_of_length_le (by rw [HQN.out]; exact Nat.le_refl _)
                have R6 : Hid (∀ t, t < k → wr.cell? ⟨U, t, none⟩ = some (.int .i64 1)) := Lib.hid (fun t ht => by
                  have h := (rw_count I1.out (t := t) ht).1
                  rw [hQq, HUE.out t ht] at h
                  exact h)
                have BZ : Hid (Below w.heap.size w wr) := Lib.hid (below_step B2.out (by rw [HU.out]; exact I2.out))
                clear I1 I2 hQq HUE HRO HQN HEM S1 B2 HU hqn hq
                go_wp2_with fail
                go_loop [132] (fun i => ∃ t : Nat, t ≤ k ∧ i = .int .i64 t) (fun i => k - (intOf i).toNat)
                case atStart => exact ⟨0, Nat.zero_le _, rfl⟩
                case round =>
                  obtain ⟨t, ht, rfl⟩ := hrel
                  by_cases htk : t < k
                  · have c0 := R6.out t htk
                    have hsu := I3.out
                    go_wp2_with fail
                    exact ⟨⟨t + 1, by omega, rfl⟩, by simp [intOf]; omega⟩
                  · obtain rfl : t = k := by omega
                    go_wp2_with fail
                    refine (awake_any _).mono ?_
                    rintro _ w5 ⟨rfl, b⟩
                    have B5 := Lib.hid (below_step BZ.out b)
                    clear b
                    go_wp2_with fail
                    go_ret
                    exact ⟨rfl, B5.out⟩
end Go.Proofs.YtnolbjaeilgjhaaDoor
