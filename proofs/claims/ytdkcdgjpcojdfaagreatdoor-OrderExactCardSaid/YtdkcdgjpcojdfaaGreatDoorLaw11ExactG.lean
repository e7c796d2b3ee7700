/-
  OrderExact: the order, and the kinds, of what is read of any text are what the document says, or the error, and where.
-/
import Derived.Test.YtdkcdgjpcojdfaaGreatDoorOrdCheckG
import Derived.Test.YtdkcdgjpcojdfaaGreatDoorLaw11KitG
import Derived.Deep.RegionHeld3

set_option linter.unusedVariables false
namespace Go.Proofs.YtdkcdgjpcojdfaaGreatDoor
open Go.RowKit
open PTree (R Ex Tr Rl Row)
open PCheck (Xp Bd)

theorem chk_len {E : List Xp} {RL : List Rw} : ∀ (l : List Nat) (bd : List Bd) (ks : List Int), (chk E RL l bd ks).1.length ≤ ks.length
  | [], _, ks => Nat.le_refl _
  | i :: l, bd, ks => by
    unfold chk
    cases h : RL[i]? with
    | none => exact Nat.le_refl _
    | some r =>
      simp only []
      split
      · exact Nat.zero_le _
      · split
        · exact Nat.zero_le _
        · have := chk_len (E := E) (RL := RL) l (bd ++ [⟨r.2.1, (PCheck.kind E r.2.2 bd).1⟩]) (ks.set i (PCheck.kind E r.2.2 bd).1)
          rw [List.length_set] at this
          exact this
theorem chkA_len {n : Nat} {E : List Xp} {RL : List Rw} {F : List Nat × Nat × Nat} (h : F.1.length ≤ n) : (chkA n E RL F).1.length ≤ n ∧ (chkA n E RL F).2.1.length ≤ n := by
  obtain ⟨l, p, e⟩ := F
  cases e with
  | succ e => exact ⟨Nat.zero_le _, Nat.zero_le _⟩
  | zero =>
    have hl := chk_len (E := E) (RL := RL) l POrd.inB (List.replicate n 0)
    rw [List.length_replicate] at hl
    show (chkR l (chk E RL l POrd.inB (List.replicate n 0))).1.length ≤ n ∧ (chkR l (chk E RL l POrd.inB (List.replicate n 0))).2.1.length ≤ n
    cases hc : chk E RL l POrd.inB (List.replicate n 0) with
    | mk ks x =>
      obtain ⟨p', e'⟩ := x
      rw [hc] at hl
      cases e' with
      | zero => exact ⟨h, hl⟩
      | succ e => exact ⟨Nat.zero_le _, Nat.zero_le _⟩
theorem ans_len (names : List (List UInt8)) (H : Nat → Nat → Bool) : (POrd.ans names H).1.length ≤ names.length := by
  cases h : POrd.ans names H with
  | mk l x =>
    obtain ⟨p, e⟩ := x
    by_cases he : e = 0
    · subst he; have := (POrd.ans_ok h).2.1; show l.length ≤ _; omega
    · rw [POrd.ans_err h he]; exact Nat.zero_le _
theorem keepc {w w' : World} {p : Addr} {u : Value} (hb : Below w.heap.size w w') (h : w.cell? p = some u) : w'.cell? p = some u := (hb.cell (World.block_lt_of_cell? w _ h)).trans h
theorem ins_cell {w : World} {b o j : Nat} {bn : List UInt8} {bk : Int} (h : SlX bdR w (some ⟨b, o, none⟩) 5 POrd.inB) (hj : j < 5) (hb : POrd.inB[j]? = some ⟨bn, bk⟩) : w.cell? ⟨b, o + j * 2, none⟩ = some (.string ⟨bn.toArray⟩) ∧ w.cell? ⟨b, o + j * 2 + 1, none⟩ = some (.int .i64 bk) := bd_cell h hj hb
set_option maxRecDepth 100000 in
set_option maxHeartbeats 12800000 in
theorem oexact11_walk (s : ByteArray) (w : World) (ht : Tab2 w) (hs : s.size ≤ maxLen) :
    Calls Tryz.prog 3 #[.string s] w (Yes11 w) := by
  obtain ⟨Q, hQ⟩ : ∃ Q, Yes11 w = Q := ⟨_, rfl⟩
  rw [hQ]
  have FIN : Hid (∀ (w' : World), Below w.heap.size w w' → Q (.returned (.bool true)) w') := Lib.hid (fun w' a => by rw [← hQ]; exact ⟨rfl, a⟩)
  have HT := Lib.hid ht
  unfold maxLen at hs
  clear hQ ht
  by_cases h6 : 500 < s.size
  · have hl : (500 : Int) < (s.size : Int) := by omega
    have AW := Lib.hid (aw11_yes w HT.out)
    go_enter Tryz.func3, Tryz.ntmps3
    go_wp2_with (go_at_call 8; refine AW.out.mono ?_)
    intro e1 w1 h1
    obtain ⟨rfl, b1⟩ := h1
    have B1 := Lib.hid b1
    clear b1 AW
    go_wp2_with fail
    exact FIN.out _ B1.out
  have hl : ¬ (500 : Int) < (s.size : Int) := by omega
  cases hp : PTree.parse s.data.toList with
  | none =>
    have PA := Lib.hid (r8parse_any s w (by omega))
    have HP := Lib.hid hp
    clear hp
    go_enter Tryz.func3, Tryz.ntmps3
    go_wp2_with (go_at_call 9; refine PA.out.mono ?_)
    intro e1 w1 h1
    obtain ⟨-, h1⟩ := h1
    rw [HP.out] at h1
    exact h1.elim
  | some r =>
    cases r with
    | bad k q =>
      have PA := Lib.hid (bad11_any hp (by omega))
      clear hp
      have PA1 := Lib.hid (PA.out.2 w)
      go_enter Tryz.func3, Tryz.ntmps3
      go_wp2_with (go_at_call 9; refine PA1.out.mono ?_)
      intro e1 w1 h1
      obtain ⟨rfl, b1, hk0⟩ := h1
      obtain ⟨w2, hw2, YB, b2⟩ : ∃ w2, w1.alloc (.cells #[.slice none 0 0, .slice none 0 0] 26) = w2 ∧ Box w2 w1.heap.size [.slice none 0 0, .slice none 0 0] ∧ Below w1.heap.size w1 w2 := ⟨_, rfl, Box.new _ _ [.slice none 0 0, .slice none 0 0], (Below.refl _ _).alloc (Nat.le_refl _) _⟩
      obtain ⟨w3, hw3, Y3, ON3⟩ := store2 YB (.slice none 0 0) (.slice none 0 0)
      have b3 := ON3.below (Nat.le_refl _) b2
      have B3 := Lib.hid (below_step b1 b3)
      have PA3 := Lib.hid (PA.out.1 w3)
      obtain ⟨y0, y1⟩ := px2 YB
      obtain ⟨z0, z1⟩ := px2f YB
      have hs2 := YB.1
      have HW3 := Lib.hid hw3
      have gk : ((k : Int) == 0) = false := by rw [beq_eq_false_iff_ne]; omega
      clear YB Y3 ON3 b1 b2 b3 hw3 PA PA1 hk0
      go_upto_region 4 with fail
      rw [HW3.out]
      clear HW3 hw2 y0 y1 z0 z1 hs2
      go_wp2_with (go_at_call 10; refine PA3.out.mono ?_)
      intro e5 w5 h5
      obtain ⟨rfl, b5, hk0⟩ := h5
      obtain ⟨w6, hw6, YB, b6⟩ : ∃ w6, w5.alloc (.cells #[.slice none 0 0, .slice none 0 0] 32) = w6 ∧ Box w6 w5.heap.size [.slice none 0 0, .slice none 0 0] ∧ Below w5.heap.size w5 w6 := ⟨_, rfl, Box.new _ _ [.slice none 0 0, .slice none 0 0], (Below.refl _ _).alloc (Nat.le_refl _) _⟩
      obtain ⟨w7, hw7, Y7, ON7⟩ := store2 YB (.slice none 0 0) (.slice none 0 0)
      have b7 := ON7.below (Nat.le_refl _) b6
      have B7 := Lib.hid (below_step B3.out (below_step b5 b7))
      have AW := Lib.hid (aw11_yes w7 (HT.out.on B7.out))
      obtain ⟨y0, y1⟩ := px2 YB
      obtain ⟨z0, z1⟩ := px2f YB
      have hs6 := YB.1
      have HW7 := Lib.hid hw7
      clear YB Y7 ON7 b5 b6 b7 hw7 PA3 hk0
      go_upto_region 5 with fail
      rw [HW7.out]
      clear HW7 hw6 y0 y1 z0 z1 hs6
      go_wp2_with (go_at_call 8; refine AW.out.mono ?_)
      intro e8 w8 h8
      obtain ⟨rfl, b8⟩ := h8
      have B8 := Lib.hid (below_step B7.out b8)
      clear b8 AW
      go_wp2_with fail
      exact FIN.out _ B8.out
    | ok t rs =>
      obtain ⟨rl, hrl⟩ : ∃ rl, rs.length = rl := ⟨_, rfl⟩
      obtain ⟨sz, hsz⟩ : ∃ sz, PTree.sizeOf rs = sz := ⟨_, rfl⟩
      have hsl : s.data.toList.length ≤ 500 := by rw [Array.length_toList]; show s.size ≤ 500; omega
      have hfit := fit_500 hp hsl
      have hr60 : rl ≤ 60 := by rw [← hrl]; exact hfit.rules
      have hz500 : sz ≤ 500 := by rw [← hsz]; exact hfit.size
      have hnn : (nmR (rwX rs)).length = rl := by rw [nmR_len, rwX_len]; exact hrl
      have PA := Lib.hid (rparse11 hp (by omega) w hrl hsz)
      have PR := Lib.hid (fun w => tparse_fit hp (by omega) w hrl hsz)
      obtain ⟨F, hF⟩ : ∃ F, POrd.ans (nmR (rwX rs)) (POrd.hangs rs) = F := ⟨_, rfl⟩
      obtain ⟨G, hG⟩ : ∃ G, chkA rl (xpX rs) (rwX rs) F = G := ⟨_, rfl⟩
      have hFl : F.1.length ≤ 60 := by rw [← hF]; have := ans_len (nmR (rwX rs)) (POrd.hangs rs); omega
      have hGl : G.1.length ≤ 60 ∧ G.2.1.length ≤ 60 := by
        have := chkA_len (n := rl) (E := xpX rs) (RL := rwX rs) (F := F) (by rw [← hF]; have := ans_len (nmR (rwX rs)) (POrd.hangs rs); omega)
        rw [hG] at this; omega
      have CS1 := Lib.hid (fun (wa : World) (A B : Option Addr) (ca cb : Nat) (h1 : SlX rlR wa A rl (rwX rs)) (h2 : SlX xpR wa B sz (xpX rs)) (h0 : sz ≤ cb) (h3 : Tab2 wa) => ksort_any (rc := ca) (c := cb) hfit h1 h2 h0 h3)
      have CS2 := Lib.hid (fun (wa : World) (A B : Option Addr) (ca cb : Nat) (h1 : SlX rlR wa A rl (rwX rs)) (h2 : SlX xpR wa B sz (xpX rs)) => r11sort_any (rc := ca) (c := cb) h1 h2 hfit.wf (by omega) (by omega))
      have CC1 := Lib.hid (fun (wa : World) (A B : Option Addr) (ca cb : Nat) (h1 : SlX rlR wa A rl (rwX rs)) (h2 : SlX xpR wa B sz (xpX rs)) (h0 : sz ≤ cb) (h3 : Tab2 wa) => kcheck_any (rc := ca) (c := cb) hfit h1 h2 h0 h3)
      have CC2 := Lib.hid (fun (wa : World) (A B : Option Addr) (ca cb : Nat) (h1 : SlX rlR wa A rl (rwX rs)) (h2 : SlX xpR wa B sz (xpX rs)) => r11check_any (rc := ca) (c := cb) h1 h2 hfit.wf (by omega) (by omega))
      rw [hF] at CS1 CS2 CC1 CC2
      rw [hG] at CC1 CC2
      obtain ⟨fl, fp, fe⟩ := F
      obtain ⟨ga, gb, gp, ge⟩ := G
      simp only [] at hFl hGl
      clear hp hrl hsz hsl hfit hnn hF hG
      go_enter Tryz.func3, Tryz.ntmps3
      go_wp2_with (go_at_call 9; refine PA.out.mono ?_)
      intro e1 w1 h1
      obtain ⟨A1, ca1, B1, cb1, rfl, s1, s2, b1⟩ := h1
      obtain ⟨w2, hw2, YB, b2⟩ : ∃ w2, w1.alloc (.cells #[.slice none 0 0, .slice none 0 0] 26) = w2 ∧ Box w2 w1.heap.size [.slice none 0 0, .slice none 0 0] ∧ Below w1.heap.size w1 w2 := ⟨_, rfl, Box.new _ _ [.slice none 0 0, .slice none 0 0], (Below.refl _ _).alloc (Nat.le_refl _) _⟩
      obtain ⟨w3, hw3, Y3, ON3⟩ := store2 YB (.slice A1 rl ca1) (.slice B1 sz cb1)
      have b3 := ON3.below (Nat.le_refl _) b2
      have B3 := Lib.hid (below_step b1 b3)
      have S1 := Lib.hid (s1.on b3); have S2 := Lib.hid (s2.on b3)
      have PR3 := Lib.hid (PR.out w3)
      have HY3 := Lib.hid Y3
      obtain ⟨y0, y1⟩ := px2 YB
      obtain ⟨z0, z1⟩ := px2f YB
      have hs2 := YB.1
      have HW3 := Lib.hid hw3
      clear YB Y3 ON3 b1 b2 b3 hw3 PA s1 s2 PR
      go_upto_region 4 with fail
      rw [HW3.out]
      clear HW3 hw2 y0 y1 z0 z1 hs2
      go_wp2_with (go_at_call 10; refine PR3.out.mono ?_)
      intro e5 w5 h5
      obtain ⟨A2, ca2, B2, cb2, rfl, hcb2, s3, s4, b5⟩ := h5
      obtain ⟨w6, hw6, YB, b6⟩ : ∃ w6, w5.alloc (.cells #[.slice none 0 0, .slice none 0 0] 32) = w6 ∧ Box w6 w5.heap.size [.slice none 0 0, .slice none 0 0] ∧ Below w5.heap.size w5 w6 := ⟨_, rfl, Box.new _ _ [.slice none 0 0, .slice none 0 0], (Below.refl _ _).alloc (Nat.le_refl _) _⟩
      obtain ⟨w7, hw7, Y7, ON7⟩ := store2 YB (.slice A2 rl ca2) (.slice B2 sz cb2)
      have b7 := ON7.below (Nat.le_refl _) b6
      have b57 := below_step b5 b7
      have B7 := Lib.hid (below_step B3.out b57)
      have S3 := Lib.hid (s3.on b7); have S4 := Lib.hid (s4.on b7); have S1 := Lib.hid (S1.out.on b57); have S2 := Lib.hid (S2.out.on b57)
      have T7 := HT.out.on B7.out
      have C1 := Lib.hid (CS1.out w7 A2 B2 ca2 cb2 S3.out S4.out hcb2 T7)
      have HT7 := Lib.hid T7
      have P7 := HY3.out.on b57
      have HP7 := Lib.hid P7; have HY7 := Lib.hid Y7
      obtain ⟨y0, y1⟩ := px2 YB
      obtain ⟨z0, z1⟩ := px2f YB
      have hs6 := YB.1
      obtain ⟨q0, q1⟩ := px2 Y7
      have hs7 := Y7.1
      have HW7 := Lib.hid hw7
      clear YB Y7 ON7 b5 b6 b7 b57 hw7 PR3 s3 s4 T7 P7 HY3
      go_upto_region 7 with fail
      rw [HW7.out]
      clear HW7 hw6 y0 y1 z0 z1 hs6
      go_wp2_with (go_at_call 11; refine C1.out.mono ?_)
      intro e8 w8 h8
      obtain ⟨LA, lc, rfl, sl, -, b8⟩ := h8
      simp only [] at sl ⊢
      have B8 := Lib.hid (below_step B7.out b8)
      have P8 := HP7.out.on b8
      have HP8 := Lib.hid P8; have HY8 := Lib.hid (HY7.out.on b8)
      have S1 := Lib.hid (S1.out.on b8); have S2 := Lib.hid (S2.out.on b8); have S3 := Lib.hid (S3.out.on b8); have S4 := Lib.hid (S4.out.on b8)
      have HT8 := Lib.hid (HT7.out.on b8)
      have HL8 := Lib.hid sl
      have C2 := Lib.hid (CS2.out w8 A1 B1 ca1 cb1 S1.out S2.out)
      clear q0 q1 hs7 C1 HP7 HY7 b8 HT7 B7 sl CS1 CS2
      obtain ⟨q0, q1⟩ := px2 P8
      have hs8 := P8.1
      clear P8
      go_wp2_with (go_at_call 12; refine C2.out.mono ?_)
      intro e9 w9 h9
      obtain ⟨MA, mc, rfl, sm, -, b9⟩ := h9
      simp only [] at sm ⊢
      have B9 := Lib.hid (below_step B8.out b9)
      have Y9 := HY8.out.on b9
      have HP9 := Lib.hid (HP8.out.on b9); have HY9 := Lib.hid Y9
      have S1 := Lib.hid (S1.out.on b9); have S2 := Lib.hid (S2.out.on b9); have S3 := Lib.hid (S3.out.on b9); have S4 := Lib.hid (S4.out.on b9)
      have HT9 := Lib.hid (HT8.out.on b9)
      have HL9 := Lib.hid (HL8.out.on b9); have HM9 := Lib.hid sm
      have C1 := Lib.hid (CC1.out w9 A2 B2 ca2 cb2 S3.out S4.out hcb2 HT9.out)
      clear q0 q1 hs8 C2 HP8 HY8 b9 HT8 B8 HL8 sm CC1
      obtain ⟨q0, q1⟩ := px2 Y9
      have hs9 := Y9.1
      clear Y9
      go_wp2_with (go_at_call 13; refine C1.out.mono ?_)
      intro e10 w10 h10
      obtain ⟨GA, gc, GB, gd, rfl, sa, sb, -, -, -, -, b10⟩ := h10
      simp only [] at sa sb ⊢
      have B10 := Lib.hid (below_step B9.out b10)
      have P10 := HP9.out.on b10
      have HT10 := Lib.hid (HT9.out.on b10)
      have HL10 := Lib.hid (HL9.out.on b10); have HM10 := Lib.hid (HM9.out.on b10); have HGA := Lib.hid sa; have HGB := Lib.hid sb
      have C2 := Lib.hid (CC2.out w10 A1 B1 ca1 cb1 (S1.out.on b10) (S2.out.on b10))
      clear q0 q1 hs9 C1 HP9 HY9 b10 HT9 B9 HL9 HM9 sa sb CC2 S1 S2 S3 S4
      obtain ⟨q0, q1⟩ := px2 P10
      have hs10 := P10.1
      clear P10
      go_wp2_with (go_at_call 14; refine C2.out.mono ?_)
      intro e11 w11 h11
      obtain ⟨HA, hc, HB, hd, rfl, sa, sb, -, -, -, -, b11⟩ := h11
      simp only [] at sa sb ⊢
      have B11 := Lib.hid (below_step B10.out b11)
      have HT11 := Lib.hid (HT10.out.on b11)
      have HGA := Lib.hid (HGA.out.on b11); have HGB := Lib.hid (HGB.out.on b11); have HHA := Lib.hid sa; have HHB := Lib.hid sb
      have CM := Lib.hid (same_yes (ca := lc) (cb := mc) (HL10.out.on b11) (HM10.out.on b11) (by omega))
      have g1 : ((fp : Int) != (fp : Int)) = false := by simp
      have g2 : ((fe : Int) != (fe : Int)) = false := by simp
      have g3 : ((gp : Int) != (gp : Int)) = false := by simp
      have g4 : ((ge : Int) != (ge : Int)) = false := by simp
      clear q0 q1 hs10 C2 b11 HT10 B10 HL10 HM10 sa sb
      go_wp2_with (go_at_call 15; refine CM.out.mono ?_)
      intro e12 w12 h12
      obtain ⟨rfl, b12⟩ := h12
      have B12 := Lib.hid (below_step B11.out b12)
      have HT12 := Lib.hid (HT11.out.on b12)
      have CM2 := Lib.hid (same_yes (ca := gc) (cb := hc) (HGA.out.on b12) (HHA.out.on b12) (by omega))
      have HGB := Lib.hid (HGB.out.on b12); have HHB := Lib.hid (HHB.out.on b12)
      clear b12 CM HT11 B11 HGA HHA
      go_wp2_with (go_at_call 15; refine CM2.out.mono ?_)
      intro e13 w13 h13
      obtain ⟨rfl, b13⟩ := h13
      have B13 := Lib.hid (below_step B12.out b13)
      have HT13 := Lib.hid (HT12.out.on b13)
      have CM3 := Lib.hid (same_yes (ca := gd) (cb := hd) (HGB.out.on b13) (HHB.out.on b13) (by omega))
      clear b13 CM2 HT12 B12 HGB HHB
      go_wp2_with (go_at_call 15; refine CM3.out.mono ?_)
      intro e14 w14 h14
      obtain ⟨rfl, b14⟩ := h14
      have B14 := Lib.hid (below_step B13.out b14)
      have HT14 := Lib.hid (HT13.out.on b14)
      have CI := Lib.hid (kinputs_any w14)
      clear b14 CM3 HT13 B13
      go_wp2_with (go_at_call 16; refine CI.out.mono ?_)
      intro e15 w15 h15
      obtain ⟨IA, ic, rfl, is, -, -, -, b15⟩ := h15
      have B15 := Lib.hid (below_step B14.out b15)
      have HT15 := Lib.hid (HT14.out.on b15)
      have HIS := Lib.hid is
      clear b15 is CI HT14 B14 g1 g2 g3 g4
      have CI := Lib.hid (fun w => r11inputs_any w)
      clear HT15
      go_wp2_with fail
      go_loopw [112] (fun x wx => ∃ j : Nat, x = .int .i64 j ∧ j ≤ 5 ∧ Hid (SlX bdR wx IA 5 POrd.inB) ∧ Hid (Below w.heap.size w wx)) (fun x _ => 5 - (intOf x).toNat)
      case atStart => exact ⟨0, rfl, Nat.zero_le _, HIS, B15⟩
      case round =>
        clear HIS B15
        obtain ⟨j, rfl, hj, I1, I2⟩ := hrel
        by_cases hj5 : j < 5
        · have gj : (j : Int) < 5 := by omega
          have gj5 : ¬ (5 : Int) ≤ (j : Int) := by omega
          have gj6 : decide ((5 : Int) ≤ (j : Int)) = false := decide_eq_false gj5
          obtain ⟨⟨bn, bk⟩, hb, -⟩ := ins_name hj5
          obtain ⟨ib, io, rfl, -⟩ := I1.out.at hj5
          obtain ⟨c0, c1⟩ := bd_cell I1.out hj5 hb
          have c0 : wr.cell? ⟨ib, io + j * 2, none⟩ = some (.string ⟨bn.toArray⟩) := c0
          have c1 : wr.cell? ⟨ib, io + j * 2 + 1, none⟩ = some (.int .i64 bk) := c1
          have hsc := World.block_lt_of_cell? wr _ c0
          obtain ⟨w9, hw9, SB, b9⟩ : ∃ w9, wr.alloc (.cells #[.string { data := #[] }, .int .i64 0] 49) = w9 ∧ Box w9 wr.heap.size [.string { data := #[] }, .int .i64 0] ∧ Below wr.heap.size wr w9 := ⟨_, rfl, Box.new _ _ [.string { data := #[] }, .int .i64 0], (Below.refl _ _).alloc (Nat.le_refl _) _⟩
          obtain ⟨w10, hw10, X10, ON10⟩ := st2x SB (.string ⟨bn.toArray⟩) (.int .i64 bk)
          have b10 : Below wr.heap.size wr w10 := ON10.below (Nat.le_refl _) b9
          obtain ⟨u0, u1⟩ := px2 X10
          have hs10 := X10.1
          obtain ⟨s0, s1⟩ := px2 SB
          obtain ⟨m0, m1⟩ := px2f SB
          have hs9 := SB.1
          have B10 := Lib.hid (below_step I2.out b10)
          have IS10 := Lib.hid (I1.out.on b10)
          have HB := Lib.hid hb
          have HW10 := Lib.hid hw10
          have g1 : decide ((⟨bn.toArray⟩ : ByteArray) = ⟨bn.toArray⟩) = true := decide_eq_true rfl
          have g2 : ((bk : Int) != (bk : Int)) = false := by simp
          clear SB X10 ON10 b9 b10 hw10 hb I1 I2
          go_upto_region 16 with fail
          rw [HW10.out]
          clear HW10 hw9 s0 s1 m0 m1 hs9 c0 c1 hsc
          go_cut [138] (fun t wx => t = .bool false ∧ Below w10.heap.size w10 wx)
          case first =>
            have BZ : Hid (Below w10.heap.size w10 w10.drew) := Lib.hid (Below.refl _ _).drew
            go_region_with (go_at_call 17; refine (CI.out _).mono ?_; rintro _ w11 ⟨JA, jc, rfl, js, -, -, -, hb11⟩; obtain ⟨jb, jo, rfl, -⟩ := js.at hj5; obtain ⟨d0, d1⟩ := ins_cell js hj5 HB.out; have hsj := World.block_lt_of_cell? w11 _ d0; have u0 := keepc hb11 u0; have u1 := keepc hb11 u1; have BZ := Lib.hid (below_step BZ.out hb11); clear js hb11)
            all_goals
              go_wp2_with fail
              go_meet
              exact ⟨rfl, BZ.out⟩
          case rest =>
           obtain ⟨rfl, bx⟩ := hcut
           have BX := Lib.hid (below_step B10.out bx)
           have ISX := Lib.hid (IS10.out.on bx)
           go_wp2_with fail
           exact ⟨⟨j + 1, by congr 1, by omega, ISX, BX⟩, by simp [intOf]; omega⟩
        · have gj : ¬ (j : Int) < 5 := by omega
          have AW := Lib.hid (aw11_yes wr (HT.out.on I2.out))
          go_wp2_with (go_at_call 8; refine AW.out.mono ?_)
          intro e8 w8 h8
          obtain ⟨rfl, b8⟩ := h8
          have B8 := Lib.hid (below_step I2.out b8)
          clear b8 AW
          go_wp2_with fail
          exact FIN.out _ B8.out
end Go.Proofs.YtdkcdgjpcojdfaaGreatDoor
