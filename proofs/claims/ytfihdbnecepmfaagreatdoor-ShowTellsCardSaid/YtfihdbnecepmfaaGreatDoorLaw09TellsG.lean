/-
  ShowTells: the text of what is read of any text, and of each of its expressions, is what the document says.
-/
import Derived.Test.YtfihdbnecepmfaaGreatDoorLK
import Derived.Test.YtfihdbnecepmfaaGreatDoorRef08ParseG
import Derived.Test.YtfihdbnecepmfaaGreatDoorT9
import Derived.Deep.RegionHeld3

set_option linter.unusedVariables false
namespace Go.Proofs.YtfihdbnecepmfaaGreatDoor
open Go.RowKit
open PTree (R Ex Tr Rl Row)
open PCheck (Xp)
open PShow (Got got)

theorem tell_prem {s : List UInt8} {t : List PLex.Tok} {rs : List Rl} (h : PTree.parse s = some (.ok t rs)) (hs : s.length ≤ 500) :
    PShow.Ahead (xpX rs) ∧ (∀ (k : Nat) (x : Xp), (xpX rs)[k]? = some x → ∃ f, PShow.formOf x.op = some f) ∧ (∀ x ∈ xpX rs, PShow.Rng x.op x.value) ∧ (∀ x ∈ xpX rs, x.value ≤ 9223372036854775807) ∧
    (∀ k, k < PTree.sizeOf rs → (PShow.tx (xpX rs) k).length ≤ 5000) ∧ (∀ r ∈ rwX rs, 0 ≤ r.2.2 ∧ r.2.2 < (PTree.sizeOf rs : Int)) ∧ PShow.linesTx (xpX rs) (rwX rs) = PTree.textB rs ∧ (PTree.textB rs).length ≤ 4000 ∧ PTree.sizeOf rs ≤ 500 ∧ rs.length ≤ 500 := by
  have g := got h
  obtain ⟨h1, h2, h3⟩ := read_in g
  have ho := of_decide_eq_true (show decide _ = true from h1)
  obtain ⟨p1, p2, p3, p4⟩ := read_prem h hs
  obtain ⟨o1, o2, o3⟩ := PShow.ord_all ho
  have hl := xpX_len rs
  refine ⟨h3, o2, fun x hx => ?_, fun x hx => (read_vals g x hx).2, fun k hk => by have := (p4 k hk).2; omega, fun r hr => ?_, h2, by rw [← h2]; exact p3.2, p1, p2⟩
  · obtain ⟨y, hy, rfl⟩ := List.mem_map.1 hx
    exact PShow.rng_rules rs 0 (fun r hr => (g.wf r hr).2.2.2.1) y hy
  · have := o3 r.2.2 (List.mem_map.2 ⟨r, hr, rfl⟩)
    omega
/-- The reference's Text of what was read. -/
theorem rtext_read {s : List UInt8} {t : List PLex.Tok} {rs : List Rl} (h : PTree.parse s = some (.ok t rs)) (hs : s.length ≤ 500) {w : World} {n c rn rc : Nat} {A RA : Option Addr} (hR : SlX rowR w RA rn (PTree.rowsOf 0 rs)) (hE : SlX exR w A n (PTree.exprsOf 0 rs)) :
    Calls Tryz.prog 14 #[.agg #[.slice RA rn rc, .slice A n c]] w (TxtAns (PTree.textB rs) w) := by
  obtain ⟨a1, a2, a3, a4, a5, a6, a7, a8, a9, a10⟩ := tell_prem h hs
  have e1 : n = PTree.sizeOf rs := by rw [← PTree.exprsOf_len 0 rs]; exact hE.1.symm
  have e2 : rn = rs.length := by rw [← rwX_len rs]; exact (slx_rw hR).1.symm
  have k := r9text_any (rc := rc) (c := c) (slx_rw hR) (slx_xpX hE) a1 a2 a3 a4 (by rw [e1]; exact a5) (by omega) (by omega) (by rw [e1]; exact a6) (by rw [a7]; omega)
  rw [a7] at k
  exact k
theorem rtexts_read {s : List UInt8} {t : List PLex.Tok} {rs : List Rl} (h : PTree.parse s = some (.ok t rs)) (hs : s.length ≤ 500) {w : World} {n c rn rc : Nat} {A RA : Option Addr} (hE : SlX exR w A n (PTree.exprsOf 0 rs)) :
    Calls Tryz.prog 15 #[.agg #[.slice RA rn rc, .slice A n c]] w (TxsAns ((List.range n).map (PShow.tx (xpX rs))) w) := by
  obtain ⟨a1, a2, a3, a4, a5, a6, a7, a8, a9, a10⟩ := tell_prem h hs
  have e1 : n = PTree.sizeOf rs := by rw [← PTree.exprsOf_len 0 rs]; exact hE.1.symm
  exact r9texts_any (rc := rc) (c := c) (slx_xpX hE) a1 a2 a3 a4 (by rw [e1]; exact a5) (by omega)
/-- The reference reads the same rows. -/
theorem rparse_rows {s : ByteArray} {rs : List Rl} {t : List PLex.Tok} (h : PTree.parse s.data.toList = some (.ok t rs)) (hs : s.size ≤ 600) (w : World) {rl sz : Nat} (hl : rs.length = rl) (hz : PTree.sizeOf rs = sz) :
    Calls Tryz.prog 11 #[.string s] w (RdAns rs rl sz w) := by
  subst hl; subst hz
  refine (r8parse_any s w hs).mono fun e w' k => ?_
  rw [h] at k
  obtain ⟨hb, A, ca, B, cb, he, _, _, h1, h2⟩ := k
  exact ⟨A, ca, B, cb, he, h1, h2, hb⟩
/-- What is answered of a text that is none. -/
def BadAns (k q : Nat) (w : World) (e : Ending) (w' : World) : Prop := e = .returned (.tuple #[.agg #[.slice none 0 0, .slice none 0 0], .int .i64 (q : Nat), .int .i64 (k : Nat)]) ∧ Below w.heap.size w w' ∧ k ≠ 0
theorem bad_any {s : ByteArray} {k q : Nat} (h : PTree.parse s.data.toList = some (.bad k q)) (hs : s.size ≤ 600) : (∀ w, Calls Tryz.prog 10 #[.string s] w (BadAns k q w)) ∧ (∀ w, Calls Tryz.prog 11 #[.string s] w (BadAns k q w)) := by
  have P := fun w => tparse_any s w (by omega)
  have Q := fun w => r8parse_any s w hs
  rw [h] at P Q
  exact ⟨fun w => (P w).mono fun e w' k => ⟨k.2.1, k.1, k.2.2⟩, fun w => (Q w).mono fun e w' k => ⟨k.2.1, k.1, k.2.2⟩⟩
set_option maxRecDepth 100000 in
set_option maxHeartbeats 12800000 in
theorem tells9_walk (s : ByteArray) (i : Int) (w : World) (ht : Tab w) (hs : s.size ≤ maxLen) (hi : (Lit.int .i64 i).wf = true) :
    Calls Tryz.prog 3 #[.string s, .int .i64 i] w (Yes w) := by
  obtain ⟨Q, hQ⟩ : ∃ Q, Yes w = Q := ⟨_, rfl⟩
  rw [hQ]
  have FIN : Hid (∀ (w' : World), Below w.heap.size w w' → Q (.returned (.bool true)) w') := Lib.hid (fun w' a => by rw [← hQ]; exact ⟨rfl, a⟩)
  have HT := Lib.hid ht
  unfold maxLen at hs
  have hib := i64_bounds hi
  clear hQ ht hi
  by_cases h6 : 500 < s.size
  · have hl : (500 : Int) < (s.size : Int) := by omega
    have AW := Lib.hid (aw9_yes w HT.out)
    go_enter Tryz.func3, Tryz.ntmps3
    go_wp2_with (go_at_call 9; refine AW.out.mono ?_)
    intro e1 w1 h1
    obtain ⟨rfl, b1⟩ := h1
    have B1 := Lib.hid b1
    clear b1 AW
    go_wp2_with fail
    exact FIN.out _ B1.out
  have hl : ¬ (500 : Int) < (s.size : Int) := by omega
  cases hp : PTree.parse s.data.toList with
  | none =>
    have PA := Lib.hid (tparse_any s w (by omega))
    have HP := Lib.hid hp
    clear hp
    go_enter Tryz.func3, Tryz.ntmps3
    go_wp2_with (go_at_call 10; refine PA.out.mono ?_)
    intro e1 w1 h1
    obtain ⟨-, h1⟩ := h1
    rw [HP.out] at h1
    exact h1.elim
  | some r =>
    cases r with
    | bad k q =>
      have PA := Lib.hid (bad_any hp (by omega))
      clear hp
      have PA1 := Lib.hid (PA.out.1 w)
      go_enter Tryz.func3, Tryz.ntmps3
      go_wp2_with (go_at_call 10; refine PA1.out.mono ?_)
      intro e1 w1 h1
      obtain ⟨rfl, b1, hk0⟩ := h1
      obtain ⟨w2, hw2, YB, b2⟩ : ∃ w2, w1.alloc (.cells #[.slice none 0 0, .slice none 0 0] 26) = w2 ∧ Box w2 w1.heap.size [.slice none 0 0, .slice none 0 0] ∧ Below w1.heap.size w1 w2 := ⟨_, rfl, Box.new _ _ [.slice none 0 0, .slice none 0 0], (Below.refl _ _).alloc (Nat.le_refl _) _⟩
      obtain ⟨w3, hw3, Y3, ON3⟩ := store2 YB (.slice none 0 0) (.slice none 0 0)
      have b3 := ON3.below (Nat.le_refl _) b2
      have B3 := Lib.hid (below_step b1 b3)
      have PA3 := Lib.hid (PA.out.2 w3)
      obtain ⟨y0, y1⟩ := px2 YB
      obtain ⟨z0, z1⟩ := px2f YB
      have hs2 := YB.1
      obtain ⟨q0, q1⟩ := px2 Y3
      have hs3 := Y3.1
      have HW3 := Lib.hid hw3
      have gk : ((k : Int) == 0) = false := by rw [beq_eq_false_iff_ne]; omega
      clear YB Y3 ON3 b1 b2 b3 hw3 PA PA1 hk0
      go_upto_region 4 with fail
      rw [HW3.out]
      clear HW3 hw2 y0 y1 z0 z1 hs2 q0 q1 hs3
      go_wp2_with (go_at_call 11; refine PA3.out.mono ?_)
      intro e5 w5 h5
      obtain ⟨rfl, b5, hk0⟩ := h5
      obtain ⟨w6, hw6, YB, b6⟩ : ∃ w6, w5.alloc (.cells #[.slice none 0 0, .slice none 0 0] 33) = w6 ∧ Box w6 w5.heap.size [.slice none 0 0, .slice none 0 0] ∧ Below w5.heap.size w5 w6 := ⟨_, rfl, Box.new _ _ [.slice none 0 0, .slice none 0 0], (Below.refl _ _).alloc (Nat.le_refl _) _⟩
      obtain ⟨w7, hw7, Y7, ON7⟩ := store2 YB (.slice none 0 0) (.slice none 0 0)
      have b7 := ON7.below (Nat.le_refl _) b6
      have B7 := Lib.hid (below_step B3.out (below_step b5 b7))
      have AW := Lib.hid (aw9_yes w7 (HT.out.on B7.out))
      obtain ⟨y0, y1⟩ := px2 YB
      obtain ⟨z0, z1⟩ := px2f YB
      have hs6 := YB.1
      have HW7 := Lib.hid hw7
      clear YB Y7 ON7 b5 b6 b7 hw7 PA3 hk0
      go_upto_region 5 with fail
      rw [HW7.out]
      clear HW7 hw6 y0 y1 z0 z1 hs6
      go_wp2_with (go_at_call 9; refine AW.out.mono ?_)
      intro e8 w8 h8
      obtain ⟨rfl, b8⟩ := h8
      have B8 := Lib.hid (below_step B7.out b8)
      clear b8 AW
      go_wp2_with fail
      exact FIN.out _ B8.out
    | ok t rs =>
      obtain ⟨rl, hrl⟩ : ∃ rl, rs.length = rl := ⟨_, rfl⟩
      obtain ⟨sz, hsz⟩ : ∃ sz, PTree.sizeOf rs = sz := ⟨_, rfl⟩
      have hsl : s.data.toList.length ≤ 500 := by rw [Array.length_toList]; show s.size ≤ 500; omega
      have PA := Lib.hid (tparse_rows hp (by omega) w hrl hsz)
      have PR := Lib.hid (fun w => rparse_rows hp (by omega) w hrl hsz)
      have PTX := Lib.hid (fun (wa : World) (A B : Option Addr) (ca cb : Nat) (h1 : SlX rowR wa A rl (PTree.rowsOf 0 rs)) (h2 : SlX exR wa B sz (PTree.exprsOf 0 rs)) (h3 : Tab wa) => ptext (rc := ca) (c := cb) hp hsl h1 h2 h3)
      have PEX := Lib.hid (fun (wa : World) (A B : Option Addr) (ca cb : Nat) (h1 : SlX rowR wa A rl (PTree.rowsOf 0 rs)) (h2 : SlX exR wa B sz (PTree.exprsOf 0 rs)) (h3 : Tab wa) => pexpr (rc := ca) (c := cb) hp hsl h1 h2 h3 i)
      have PRT := Lib.hid (fun (wa : World) (A B : Option Addr) (ca cb : Nat) (h1 : SlX rowR wa A rl (PTree.rowsOf 0 rs)) (h2 : SlX exR wa B sz (PTree.exprsOf 0 rs)) => rtext_read (rc := ca) (c := cb) hp hsl h1 h2)
      have PRX := Lib.hid (fun (wa : World) (A B : Option Addr) (ca cb : Nat) (h2 : SlX exR wa B sz (PTree.exprsOf 0 rs)) => rtexts_read (rn := rl) (RA := A) (rc := ca) (c := cb) hp hsl h2)
      obtain ⟨TB, hTB⟩ : ∃ TB, PTree.textB rs = TB := ⟨_, rfl⟩
      obtain ⟨TX, hTX⟩ : ∃ TX, PShow.tx (xpX rs) = TX := ⟨_, rfl⟩
      rw [hTB] at PTX PRT
      rw [hTX] at PEX PRX
      rw [hsz] at PEX
      have hfew := (tell_prem hp hsl).2.2.2.2.2.2.2.2
      rw [hsz, hrl] at hfew
      obtain ⟨hz5, hr5⟩ := hfew
      clear hp hrl hsz hsl hTB hTX
      go_enter Tryz.func3, Tryz.ntmps3
      go_wp2_with (go_at_call 10; refine PA.out.mono ?_)
      intro e1 w1 h1
      obtain ⟨A1, ca1, B1, cb1, rfl, s1, s2, b1⟩ := h1
      obtain ⟨w2, hw2, YB, b2⟩ : ∃ w2, w1.alloc (.cells #[.slice none 0 0, .slice none 0 0] 26) = w2 ∧ Box w2 w1.heap.size [.slice none 0 0, .slice none 0 0] ∧ Below w1.heap.size w1 w2 := ⟨_, rfl, Box.new _ _ [.slice none 0 0, .slice none 0 0], (Below.refl _ _).alloc (Nat.le_refl _) _⟩
      obtain ⟨w3, hw3, Y3, ON3⟩ := store2 YB (.slice A1 rl ca1) (.slice B1 sz cb1)
      have b3 := ON3.below (Nat.le_refl _) b2
      have B3 := Lib.hid (below_step b1 b3)
      have S1 := Lib.hid (s1.on b3); have S2 := Lib.hid (s2.on b3)
      have PR3 := Lib.hid (PR.out w3)
      have HY3 := Lib.hid Y3
      obtain ⟨y0, y1⟩ := px2 YB
      obtain ⟨z0, z1⟩ := px2f YB
      have hs2 := YB.1
      have HW3 := Lib.hid hw3
      clear YB Y3 ON3 b1 b2 b3 hw3 PA s1 s2 PR
      go_upto_region 4 with fail
      rw [HW3.out]
      clear HW3 hw2 y0 y1 z0 z1 hs2
      go_wp2_with (go_at_call 11; refine PR3.out.mono ?_)
      intro e5 w5 h5
      obtain ⟨A2, ca2, B2, cb2, rfl, s3, s4, b5⟩ := h5
      obtain ⟨w6, hw6, YB, b6⟩ : ∃ w6, w5.alloc (.cells #[.slice none 0 0, .slice none 0 0] 33) = w6 ∧ Box w6 w5.heap.size [.slice none 0 0, .slice none 0 0] ∧ Below w5.heap.size w5 w6 := ⟨_, rfl, Box.new _ _ [.slice none 0 0, .slice none 0 0], (Below.refl _ _).alloc (Nat.le_refl _) _⟩
      obtain ⟨w7, hw7, Y7, ON7⟩ := store2 YB (.slice A2 rl ca2) (.slice B2 sz cb2)
      have b7 := ON7.below (Nat.le_refl _) b6
      have b57 := below_step b5 b7
      have B7 := Lib.hid (below_step B3.out b57)
      have S3 := Lib.hid (s3.on b7); have S4 := Lib.hid (s4.on b7); have S1 := Lib.hid (S1.out.on b57); have S2 := Lib.hid (S2.out.on b57)
      have T7 := HT.out.on B7.out
      have CT := Lib.hid (PTX.out w7 A1 B1 ca1 cb1 S1.out S2.out T7)
      have HT7 := Lib.hid T7
      have P7 := HY3.out.on b57
      have HP7 := Lib.hid P7; have HY7 := Lib.hid Y7
      obtain ⟨y0, y1⟩ := px2 YB
      obtain ⟨z0, z1⟩ := px2f YB
      have hs6 := YB.1
      obtain ⟨q0, q1⟩ := px2 P7
      have hs7 := P7.1
      have HW7 := Lib.hid hw7
      clear YB Y7 ON7 b5 b6 b7 b57 hw7 PR3 s3 s4 T7 P7 HY3
      go_upto_region 7 with fail
      rw [HW7.out]
      clear HW7 hw6 y0 y1 z0 z1 hs6
      go_wp2_with (go_at_call 12; refine CT.out.mono ?_)
      intro e8 w8 h8
      obtain ⟨rfl, b8⟩ := h8
      have B8 := Lib.hid (below_step B7.out b8)
      have P8 := HP7.out.on b8
      have ce := PEX.out w8 A1 B1 ca1 cb1 (S1.out.on b8) (S2.out.on b8) (HT7.out.on b8)
      have HT8 := Lib.hid (HT7.out.on b8)
      have HY8 := Lib.hid (HY7.out.on b8)
      have S3 := Lib.hid (S3.out.on b8); have S4 := Lib.hid (S4.out.on b8)
      have gT : (TB == TB) = true := beq_self_eq_true _
      clear q0 q1 hs7 CT HP7 HY7 b8 HT7 B7 S1 S2 PTX PEX
      obtain ⟨q0, q1⟩ := px2 P8
      have hs8 := P8.1
      clear P8
      by_cases hin : 0 ≤ i ∧ i < (sz : Int)
      · rw [if_pos hin] at ce
        obtain ⟨j, rfl⟩ : ∃ j : Nat, i = j := ⟨i.toNat, by omega⟩
        rw [Int.toNat_natCast] at ce
        have hjs : j < sz := by omega
        have gj : (j : Int) < (sz : Int) := by omega
        have CE := Lib.hid ce
        clear ce hin
        go_wp2_with (go_at_call 13; refine CE.out.mono ?_)
        intro e9 w9 h9
        obtain ⟨rfl, b9⟩ := h9
        have B9 := Lib.hid (below_step B8.out b9)
        have Y9 := HY8.out.on b9
        have HT9 := Lib.hid (HT8.out.on b9)
        have S3 := Lib.hid (S3.out.on b9); have S4 := Lib.hid (S4.out.on b9)
        have CRT := Lib.hid (PRT.out w9 A2 B2 ca2 cb2 S3.out S4.out)
        have HY9 := Lib.hid Y9
        clear q0 q1 hs8 CE b9 HT8 HY8 PRT B8
        obtain ⟨q0, q1⟩ := px2 Y9
        have hs9 := Y9.1
        clear Y9
        go_wp2_with (go_at_call 14; refine CRT.out.mono ?_)
        intro e10 w10 h10
        obtain ⟨rfl, b10⟩ := h10
        have B10 := Lib.hid (below_step B9.out b10)
        have Y10 := HY9.out.on b10
        have HT10 := Lib.hid (HT9.out.on b10)
        have CRX := Lib.hid (PRX.out w10 A2 B2 ca2 cb2 (S4.out.on b10))
        clear q0 q1 hs9 CRT b10 HT9 HY9 PRX B9
        obtain ⟨q0, q1⟩ := px2 Y10
        have hs10 := Y10.1
        clear Y10
        go_wp2_with (go_at_call 15; refine CRX.out.mono ?_)
        intro e11 w11 h11
        obtain ⟨LB, lc, rfl, sl, b11⟩ := h11
        rw [show ((List.range sz).map TX).length = sz by simp] at sl ⊢
        obtain ⟨lb, lo, rfl, -⟩ := sl.at hjs
        have cl : w11.cell? ⟨lb, lo + j, none⟩ = some (.string ⟨(TX j).toArray⟩) := str_cell sl hjs (by rw [List.getElem?_map, List.getElem?_range hjs]; rfl)
        have hcl := World.block_lt_of_cell? w11 _ cl
        have gX : (TX j == TX j) = true := beq_self_eq_true _
        have B11 := Lib.hid (below_step B10.out b11)
        have AW := Lib.hid (aw9_yes w11 (HT10.out.on b11))
        clear sl b11 q0 q1 hs10 CRX HT10 B10
        go_wp2_with (go_at_call 9; refine AW.out.mono ?_)
        intro e12 w12 h12
        obtain ⟨rfl, b12⟩ := h12
        have B12 := Lib.hid (below_step B11.out b12)
        clear b12 AW
        go_wp2_with fail
        exact FIN.out _ B12.out
      · rw [if_neg hin] at ce
        have CE := Lib.hid ce
        clear ce
        go_wp2_with (go_at_call 13; refine CE.out.mono ?_)
        intro e9 w9 h9
        obtain ⟨rfl, b9⟩ := h9
        have B9 := Lib.hid (below_step B8.out b9)
        have Y9 := HY8.out.on b9
        have HT9 := Lib.hid (HT8.out.on b9)
        have S3 := Lib.hid (S3.out.on b9); have S4 := Lib.hid (S4.out.on b9)
        have CRT := Lib.hid (PRT.out w9 A2 B2 ca2 cb2 S3.out S4.out)
        have HY9 := Lib.hid Y9
        clear q0 q1 hs8 CE b9 HT8 HY8 PRT B8
        obtain ⟨q0, q1⟩ := px2 Y9
        have hs9 := Y9.1
        clear Y9
        go_wp2_with (go_at_call 14; refine CRT.out.mono ?_)
        intro e10 w10 h10
        obtain ⟨rfl, b10⟩ := h10
        have B10 := Lib.hid (below_step B9.out b10)
        have Y10 := HY9.out.on b10
        have AW := Lib.hid (aw9_yes w10 (HT9.out.on b10))
        clear q0 q1 hs9 CRT b10 HT9 HY9 PRX B9
        obtain ⟨q0, q1⟩ := px2 Y10
        have hs10 := Y10.1
        clear Y10
        by_cases hi0 : i < 0
        all_goals
          first
          | (have g1 : ¬ i < 0 := hi0
             have g2 : (sz : Int) ≤ i := by omega
             clear hin hi0
             go_wp2_with (go_at_call 9; refine AW.out.mono ?_))
          | (clear hin
             go_wp2_with (go_at_call 9; refine AW.out.mono ?_))
          intro e12 w12 h12
          obtain ⟨rfl, b12⟩ := h12
          have B12 := Lib.hid (below_step B10.out b12)
          clear b12 AW
          go_wp2_with fail
          exact FIN.out _ B12.out
end Go.Proofs.YtfihdbnecepmfaaGreatDoor
