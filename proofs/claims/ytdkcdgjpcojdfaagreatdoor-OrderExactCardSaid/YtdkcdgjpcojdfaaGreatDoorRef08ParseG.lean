/-
  What the reference of layer 8 answers of a text: its program, or an error and its place.
-/
import Derived.Test.YtdkcdgjpcojdfaaGreatDoorR8C
import Derived.Test.YtdkcdgjpcojdfaaGreatDoorRef07AllG
import Derived.Test.YtdkcdgjpcojdfaaGreatDoorTreeParseG
import Derived.Deep.CutBlock
import Derived.Deep.DeepCutAuto

namespace Go.Proofs.YtdkcdgjpcojdfaaGreatDoor
open Go.RowKit
open PTree (R Ex Tr Md Rl Row tx kd pl rule1)
def TreeAnsR (r : Option (R (List Rl))) (w : World) (e : Ending) (w' : World) : Prop :=
  Below w.heap.size w w' ∧ match r with
  | none => False
  | some (.bad k q) => e = .returned (.tuple #[.agg #[.slice none 0 0, .slice none 0 0], .int .i64 (q : Nat), .int .i64 (k : Nat)]) ∧ k ≠ 0
  | some (.ok _ rs) => ∃ A ca B cb, e = .returned (.tuple #[.agg #[.slice A rs.length ca, .slice B (PTree.sizeOf rs) cb], .int .i64 0, .int .i64 0]) ∧ (A = none → ca = 0) ∧ (B = none → cb = 0) ∧ SlX rowR w' A rs.length (PTree.rowsOf 0 rs) ∧ SlX exR w' B (PTree.sizeOf rs) (PTree.exprsOf 0 rs)
theorem tok_ok {l : List UInt8} {ts : List PLex.Tok} (hq : PLex.all PLex.kindOf 0 l = (none, ts)) (hs : l.length ≤ 600) : TokOk ts ∧ ts.length ≤ 600 := by
  have hl := PLex.all_lone (K := PLex.kindOf) l.length 0 l (Nat.le_refl _)
  have hn := PLex.all_sum (K := PLex.kindOf) l.length 0 l (Nat.le_refl _)
  rw [hq] at hl hn
  have hn' : (ts.map (fun x => x.text.length)).sum ≤ l.length := hn
  have h2 : ts.length ≤ (ts.map (fun x => x.text.length)).sum := PLex.sum_len (fun x hx => (hl x hx).ne)
  exact ⟨fun x hx => ⟨hl x hx, by have := PTree.mem_le_sum (List.mem_map.2 ⟨x, hx, rfl⟩ : x.text.length ∈ ts.map (fun x => x.text.length)); omega⟩, by omega⟩
theorem slt_keep {w w' : World} {A : Option Addr} {n B : Nat} {l : List PLex.Tok} (h : SlT w A n l) (hA : ∀ b off, A = some ⟨b, off, none⟩ → n ≠ 0 → b < B) (hb : Below B w w') : SlT w' A n l := by
  obtain ⟨h1, h2⟩ := h
  refine ⟨h1, ?_⟩
  by_cases h0 : n = 0
  · exact .inl h0
  rcases h2 with h2 | ⟨b, off, h3, h4⟩
  · exact .inl h2
  · have hlt := hA b off h3 h0
    exact .inr ⟨b, off, h3, fun i hi => ⟨(hb.cell (p := ⟨b, _, none⟩) hlt).trans (h4 i hi).1, (hb.cell (p := ⟨b, _, none⟩) hlt).trans (h4 i hi).2.1, (hb.cell (p := ⟨b, _, none⟩) hlt).trans (h4 i hi).2.2⟩⟩
theorem slt_ltP {w : World} {A : Option Addr} {n : Nat} {l : List PLex.Tok} (h : SlT w A n l) : ∀ b off, A = some ⟨b, off, none⟩ → n ≠ 0 → b < w.heap.size := by
  rintro b off rfl h0
  obtain ⟨h1, h2⟩ := h
  rcases h2 with h2 | ⟨b', off', h3, h4⟩
  · exact absurd h2 h0
  · cases h3; exact World.block_lt_of_cell? w _ (h4 0 (by omega)).1
theorem slx_far {α : Type} {R : Rec α} {w w' : World} {H n : Nat} {vs : List Value} {C : Option Addr} {l : List α} (hs : ∀ x, ∃ u, (R.C x)[0]? = some (.string u)) (h : SlX R w C n l) (hb : Box w H vs) (hv : ∀ u, Value.string u ∉ vs) (ho : Only H w w') : SlX R w' C n l :=
  h.cells (fun b hA h0 o => ho.cell ⟨b, o, none⟩ (by
    obtain ⟨off, rfl⟩ := hA
    obtain ⟨b2, off2, e, hc⟩ := h.at (i := 0) (by omega)
    cases e
    obtain ⟨u, hu⟩ := hs (l[0]'(by have := h.1; omega))
    have c0 := hc 0 (by have := h.1; omega) 0 _ hu
    exact hb.apart c0 (hv _)))
theorem slx_gr8 {α : Type} {R : Rec α} {w w' : World} {n : Nat} {C : Option Addr} {l : List α} {row : Option Nat} (hs : ∀ x, ∃ u, (R.C x)[0]? = some (.string u)) (h : SlX R w C n l) (hg : w.grownBy w' row) (hne : ∀ a, C = some a → row ≠ some a.block) : SlX R w' C n l :=
  h.cells (fun b hA h0 o => by
    obtain ⟨off, rfl⟩ := hA
    obtain ⟨b2, off2, e, hc⟩ := h.at (i := 0) (by omega)
    cases e
    obtain ⟨u, hu⟩ := hs (l[0]'(by have := h.1; omega))
    have c0 := hc 0 (by have := h.1; omega) 0 _ hu
    exact hg.cell_far ⟨b, o, none⟩ (show b < w.heap.size from World.block_lt_of_cell? w _ c0) (fun e => hne _ rfl e.symm))
theorem exR_str (x : Ex) : ∃ u, (exR.C x)[0]? = some (.string u) := ⟨_, rfl⟩
theorem rowR_str (x : Row) : ∃ u, (rowR.C x)[0]? = some (.string u) := ⟨_, rfl⟩
theorem p8must {A B : Option Addr} {cap rn rc en G : Nat} {ts : List PLex.Tok} {β : Type} {r : Option (R β)} {X : β → List Ex} {bd n k : Nat} {C : Option Addr} {i er p : Int} {w : World} (h : RS ⟨A, cap, B, rn, rc, en, 0, ts, G⟩ r X bd C n k i er p w) (hA : SlT w A ts.length ts) (hl : ts.length ≤ 1000) (u : ByteArray) (hu : u.data.toList ≠ []) :
    Calls Tryz.prog 27 #[stV (.slice A ts.length cap) (.slice B rn rc) (.slice C n k) en i er p, .string u] w fun e w' => ∃ C' n' k' i' er' p', e = .returned (stV (.slice A ts.length cap) (.slice B rn rc) (.slice C' n' k') en i' er' p') ∧
      RS ⟨A, cap, B, rn, rc, en, 0, ts, G⟩ (Mx en u.data.toList r) X bd C' n' k' i' er' p' w' ∧ Below w.heap.size w w' := bind_must h hA hl u hu
theorem p8whole {A B : Option Addr} {cap rn rc en G : Nat} {ts : List PLex.Tok} {β : Type} {r : Option (R β)} {X : β → List Ex} {bd n k : Nat} {C : Option Addr} {i er p : Int} {w : World} {N M K : Nat} (IW : WholeC ⟨A, cap, B, rn, rc, en, 0, ts, G⟩ N) (h : RS ⟨A, cap, B, rn, rc, en, 0, ts, G⟩ r X bd C n k i er p w) (hf : Fx r X M K) (hA : SlT w A ts.length ts) (hM : 10 * M ≤ N) (hK : K + 5 * (22 - 1) + 3 ≤ bd) (hb : bd ≤ 4999) :
    Calls Tryz.prog 26 #[stV (.slice A ts.length cap) (.slice B rn rc) (.slice C n k) en i er p, .int .i64 1] w fun e w' => ∃ C' n' k' i' er' p' a, e = .returned (.tuple #[stV (.slice A ts.length cap) (.slice B rn rc) (.slice C' n' k') en i' er' p', .int .i64 (a : Nat)]) ∧
      RS ⟨A, cap, B, rn, rc, en, 0, ts, G⟩ (Nx en .whole 1 r) (XN X) bd C' n' k' i' er' p' w' ∧ (∀ ts b t, Nx en .whole 1 r = some (.ok ts (b, t)) → a = (X b).length + t.size - 1) ∧ Below w.heap.size w w' := bind_whole (D := 1) IW (by decide) h hf hA hM hK hb
def leftP (L n : Nat) (w : World) : Nat := match w.cell? ⟨L, 5, none⟩, w.cell? ⟨L, 2, none⟩ with
  | some (.int _ 0), some (.int _ i) => n + 1 - i.toNat
  | _, _ => 0
theorem leftP_ok {L n j : Nat} {w : World} (h5 : w.cell? ⟨L, 5, none⟩ = some (.int .i64 0)) (h2 : w.cell? ⟨L, 2, none⟩ = some (.int .i64 j)) : leftP L n w = n + 1 - j := by
  unfold leftP; rw [h5, h2]; simp
theorem leftP_bad {L n : Nat} {er : Int} {w : World} (h5 : w.cell? ⟨L, 5, none⟩ = some (.int .i64 er)) (he : er ≠ 0) : leftP L n w = 0 := by
  unfold leftP; rw [h5]
  split
  · rename_i h _; cases h; exact absurd rfl he
  · rfl
def GoOn (L : Nat) (A : Option Addr) (cap en : Nat) (ts : List PLex.Tok) (F : Option (R (List Rl))) (wr : World) : Prop :=
  ∃ (rs0 : List Rl) (j : Nat) (B : Option Addr) (rc : Nat) (C : Option Addr) (k G : Nat),
    Box wr L (sc ⟨A, cap, B, rs0.length, rc, en, 0, ts, G⟩ C (PTree.exprsOf 0 rs0).length k j 0 0) ∧ (C = none → k = 0) ∧ SlE G wr C (PTree.exprsOf 0 rs0).length (PTree.exprsOf 0 rs0) ∧
    wr.ownsRow (L + 1) 78 3 (.slice B rs0.length rc) rs0.length (rowR.cells (PTree.rowsOf 0 rs0)) ∧ (∀ g, (Value.slice B rs0.length rc).ownBlock = some g → g = G) ∧
    PTree.toldR en F rs0 (ts.drop j) ∧ j ≤ ts.length ∧ rs0.length ≤ 60 ∧ PTree.sizeOf rs0 + (ts.length - j) ≤ ts.length
def Wrong (L : Nat) (A : Option Addr) (cap en : Nat) (ts : List PLex.Tok) (F : Option (R (List Rl))) (wr : World) : Prop :=
  ∃ (B : Option Addr) (rn rc : Nat) (C : Option Addr) (n k : Nat) (i : Int) (e q : Nat),
    Box wr L (sc ⟨A, cap, B, rn, rc, en, 0, ts, 0⟩ C n k i (e : Nat) (q : Nat)) ∧ e ≠ 0 ∧ F = some (.bad e q)
def Whole8 (L : Nat) (A : Option Addr) (cap en : Nat) (ts : List PLex.Tok) (F : Option (R (List Rl))) (wr : World) : Prop :=
  ∃ (rs0 : List Rl) (B : Option Addr) (rc : Nat) (C : Option Addr) (k : Nat) (i : Int),
    Box wr L (sc ⟨A, cap, B, rs0.length, rc, en, 0, ts, 0⟩ C (PTree.exprsOf 0 rs0).length k i 0 0) ∧ (C = none → k = 0) ∧ (B = none → rc = 0) ∧ SlX exR wr C (PTree.exprsOf 0 rs0).length (PTree.exprsOf 0 rs0) ∧
    SlX rowR wr B rs0.length (PTree.rowsOf 0 rs0) ∧ F = some (.ok [] rs0)

set_option maxRecDepth 100000 in
set_option maxHeartbeats 6400000 in
theorem r8parse_lex {s : ByteArray} {q : Nat} (w : World) (hs : s.size ≤ 99999) (hq : (PLex.all PLex.kindOf 0 s.data.toList).1 = some q) :
    Calls Tryz.prog 9 #[.string s] w (TreeAnsR (PTree.parse s.data.toList) w) := by
  have hp : PTree.parse s.data.toList = some (.bad 2 q) := by
    unfold PTree.parse
    obtain ⟨r, hr⟩ : ∃ r, PLex.all PLex.kindOf 0 s.data.toList = r := ⟨_, rfl⟩
    rw [hr] at hq ⊢
    obtain ⟨a, b⟩ := r
    simp only [] at hq
    subst hq; rfl
  rw [hp]
  have HL : Hid (∀ w, Calls Tryz.prog 21 #[.string s] w fun e w' => ∃ A cap, e = .returned (.tuple #[.slice A 0 cap, .int .i64 (q : Nat)]) ∧ Below w.heap.size w w') := Lib.hid (fun w => (refall_any s w hs).mono fun e w' k => by
    obtain ⟨A, n, cap, rfl, _, _, h3, h4⟩ := k
    rw [hq] at h3 ⊢
    obtain rfl : 0 = n := h3.1
    exact ⟨A, cap, rfl, h4⟩)
  obtain ⟨w1, hw1, PB, b1⟩ : ∃ w1, w.alloc (.cells #[.slice none 0 0, .slice none 0 0] 26) = w1 ∧ Box w1 w.heap.size [.slice none 0 0, .slice none 0 0] ∧ Below w.heap.size w w1 := ⟨_, rfl, Box.new _ _ [.slice none 0 0, .slice none 0 0], (Below.refl _ _).alloc (Nat.le_refl _) _⟩
  have PB := Lib.hid PB; have B1 := Lib.hid b1
  clear hp hq b1 hs
  have q0 : (0 : Int) ≤ (q : Nat) := by omega
  go_enter Tryz.func9, Tryz.ntmps9
  go_wp2_with fail
  (try rw [hw1])
  refine (HL.out _).mono ?_
  rintro _ w2 ⟨A, cap, rfl, b2⟩
  have P2 := PB.out.on b2
  obtain ⟨wz, hwz, PZ, ON⟩ := store2 P2 (.slice none 0 0) (.slice none 0 0)
  obtain ⟨c0, c1⟩ := box2 P2
  obtain ⟨f0, f1⟩ := box2f P2
  obtain ⟨q0, q1⟩ := box2 PZ
  rw [← hwz] at q0 q1
  have hsz := P2.1
  have HWZ := Lib.hid hwz
  have BZ := Lib.hid (ON.below (Nat.le_refl _) (below_step B1.out b2))
  clear hw1 P2 PZ ON hwz b2 HL PB B1
  go_wp2_with fail
  (try simp only [Exit.inBlock, Exit.then])
  refine bodyPost_ret (by simp [results, Tryz.results9, go_sem, q0, q1]; try rfl) rfl ?_
  rw [HWZ.out]
  exact ⟨BZ.out, rfl, by decide⟩
set_option maxRecDepth 100000 in
set_option maxHeartbeats 6400000 in
theorem r8parse_toks {s : ByteArray} {ts : List PLex.Tok} (w : World) (hs : s.size ≤ 600) (hq : PLex.all PLex.kindOf 0 s.data.toList = (none, ts)) :
    Calls Tryz.prog 9 #[.string s] w (TreeAnsR (PTree.parse s.data.toList) w) := by
  have hp : PTree.parse s.data.toList = PTree.rules s.size 0 ts := by
    unfold PTree.parse; rw [hq]
    simp only [ByteArray.size, Array.length_toList]
  rw [hp]
  obtain ⟨F, hF⟩ : ∃ F, PTree.rules s.size 0 ts = F := ⟨_, rfl⟩
  rw [hF]
  obtain ⟨hTk, -⟩ := PTree.toks_of hq (by rw [Array.length_toList]; exact Nat.le_trans hs (by decide))
  obtain ⟨hTo, hts⟩ := tok_ok hq (by rw [Array.length_toList]; exact hs)
  have HL : Hid (∀ w, Calls Tryz.prog 21 #[.string s] w fun e w' => ∃ A cap, e = .returned (.tuple #[.slice A ts.length cap, .int .i64 (-1)]) ∧ SlT w' A ts.length ts ∧ Below w.heap.size w w') := Lib.hid (fun w => (refall_any s w (by omega)).mono fun e w' k => by
    obtain ⟨A, n, cap, rfl, _, _, h3, h4⟩ := k
    rw [hq] at h3 ⊢
    obtain rfl : ts.length = n := h3.1
    exact ⟨A, cap, rfl, h3, h4⟩)
  obtain ⟨Q, hQ⟩ : ∃ Q, TreeAnsR F w = Q := ⟨_, rfl⟩
  rw [hQ]
  have HQ := Lib.hid hQ; have HF := Lib.hid hF; have HT := Lib.hid hTk; have HTO := Lib.hid hTo; have HTS := Lib.hid hts
  obtain ⟨w1, hw1, PB, b1⟩ : ∃ w1, w.alloc (.cells #[.slice none 0 0, .slice none 0 0] 26) = w1 ∧ Box w1 w.heap.size [.slice none 0 0, .slice none 0 0] ∧ Below w.heap.size w w1 := ⟨_, rfl, Box.new _ _ [.slice none 0 0, .slice none 0 0], (Below.refl _ _).alloc (Nat.le_refl _) _⟩
  obtain ⟨H, hH⟩ : ∃ H, w.heap.size = H := ⟨_, rfl⟩
  have HH := Lib.hid hH
  rw [hH] at PB b1
  have PB := Lib.hid PB; have B1 := Lib.hid b1
  have gs : (s.size : Int) ≤ 600 := by omega
  have gt : (ts.length : Int) ≤ 600 := by omega
  clear hp b1 hs hq hTk hTo hts hQ hF
  go_enter Tryz.func9, Tryz.ntmps9
  go_wp2_with fail
  (try rw [hw1])
  (try rw [hH])
  refine (HL.out _).mono ?_
  rintro _ w2 ⟨A, cap, rfl, sa, b2⟩
  have P2 := PB.out.on b2
  have B2 := B1.out.trans (b2.mono (Nat.le_of_lt PB.out.1))
  obtain ⟨w3, hw3, XB, b3⟩ : ∃ w3, w2.alloc (.cells #[.slice A ts.length cap, .int .i64 s.size, .int .i64 0, .slice none 0 0, .slice none 0 0, .int .i64 0, .int .i64 0] 68) = w3 ∧ Box w3 w2.heap.size [.slice A ts.length cap, .int .i64 s.size, .int .i64 0, .slice none 0 0, .slice none 0 0, .int .i64 0, .int .i64 0] ∧ Below w2.heap.size w2 w3 := ⟨_, rfl, Box.new _ _ [.slice A ts.length cap, .int .i64 s.size, .int .i64 0, .slice none 0 0, .slice none 0 0, .int .i64 0, .int .i64 0], (Below.refl _ _).alloc (Nat.le_refl _) _⟩
  have SLT := Lib.hid (slt_ltP sa)
  obtain ⟨L, hL⟩ : ∃ L, w2.heap.size = L := ⟨_, rfl⟩
  have HLH : Hid (H < L) := Lib.hid (by rw [← hL]; exact P2.1)
  have SA3 := Lib.hid (sa.on b3)
  have P3 := Lib.hid (P2.on b3)
  have B3 := Lib.hid (B2.trans (b3.mono (Nat.le_of_lt P2.1)))
  rw [hL] at XB SLT
  have HW3 := Lib.hid hw3; have HL2 := Lib.hid hL
  have XB3 := Lib.hid XB
  have GO3 : Hid (GoOn L A cap s.size ts F w3) := Lib.hid (⟨[], 0, none, 0, none, 0, H, XB, fun _ => rfl, ⟨slr_nil _ _ _, Nat.lt_of_lt_of_le HLH.out (Nat.le_of_lt XB.1), fun _ e => by cases e⟩, World.ownsRow_nil _ _ _ _, (fun _ e => by cases e), by rw [List.drop_zero, ← HF.out]; exact PTree.toldR_first _ _, Nat.zero_le _, by decide, by simp [PTree.sizeOf]⟩)
  clear hw1 hw3 hL P2 B2 XB b3 sa b2 HL PB B1 hH
  go_upto_block 0 with fail
  (try rw [HW3.out])
  (try rw [HL2.out])
  clear HW3 HL2
  go_cut [8] (fun _ wx => Hid (Wrong L A cap s.size ts F wx ∨ Whole8 L A cap s.size ts F wx) ∧ Hid (Box wx H [.slice none 0 0, .slice none 0 0]) ∧ Hid (Below H w wx) ∧ Hid (H < L))
  case first =>
    go_wp2_with fail
    go_loopw [8] (fun _ wr => Hid (GoOn L A cap s.size ts F wr ∨ Wrong L A cap s.size ts F wr) ∧ Hid (SlT wr A ts.length ts) ∧ Hid (Box wr H [.slice none 0 0, .slice none 0 0]) ∧ Hid (Below H w wr)) (fun _ wr => leftP L ts.length wr)
    case atStart => exact ⟨Lib.hid (.inl GO3.out), SA3, P3, B3⟩
    case round =>
      clear GO3 SA3 P3 B3 XB3
      obtain ⟨I0, I1, I2, I3⟩ := hrel
      rcases I0.out with h | h
      · obtain ⟨rs0, j, B, rc, C, k, G, xb, hC, hX, own, hg, td, hj, h60, hsz⟩ := h
        by_cases hlt : j < ts.length
        · have TD := Lib.hid td; have HJ := Lib.hid hlt; have HX := Lib.hid hX; have HC := Lib.hid hC; have OWN := Lib.hid own; have HGG := Lib.hid hg; have H60 := Lib.hid h60; have HSZ := Lib.hid hsz
          obtain ⟨xs, hxs⟩ : ∃ xs, PTree.exprsOf 0 rs0 = xs := ⟨_, rfl⟩
          rw [hxs] at xb HX
          have HXS := Lib.hid hxs
          obtain ⟨t, htt⟩ : ∃ t, PTree.textOf (ts.drop j) = t := ⟨_, rfl⟩
          have H1 := Lib.hid (fun (w : World) (h : SlT w A ts.length ts) => r8text_any (cap := cap) (B := B) (C := C) (rn := rs0.length) (rc := rc) (xn := xs.length) (xc := k) (en := s.size) (er := 0) (pl := 0) h hj)
          have HWR := Lib.hid (fun (e : Int) (i : Nat) (hi : i ≤ ts.length) (w : World) (h : SlT w A ts.length ts) => r8wrong_new (cap := cap) (B := B) (C := C) (rn := rs0.length) (rc := rc) (xn := xs.length) (xc := k) (en := s.size) (e := e) (pl := 0) h hi)
          have HTT := Lib.hid htt
          rw [htt] at H1
          obtain ⟨tb, htb⟩ : ∃ b, ({ data := t.toArray } : ByteArray) = b := ⟨_, rfl⟩
          rw [htb] at H1
          have htb2 : tb.data.toList = t := by rw [← htb]
          have HTB := Lib.hid htb2
          have H2 := Lib.hid (fun w => r8one_any (u := tb) (c := 4) (strR_new w 9 PTree.kinds) (by decide))
          rw [htb2] at H2
          unfold stV at H1 HWR
          have hkk : tx ts j ∈ PTree.kinds ↔ t ∈ PTree.kinds := by
            rw [← htt]
            exact ⟨fun h => by rw [(PTree.textOf_tx HT.out j (PTree.kinds_wd h)).2 rfl]; exact h, fun h => by rw [(PTree.textOf_tx HT.out j (PTree.kinds_wd h)).1 rfl]; exact h⟩
          have HKK := Lib.hid hkk
          have XB0 : Hid (Box wr L (stC (.slice A ts.length cap) (.slice B rs0.length rc) (.slice C xs.length k) s.size j 0 0)) := Lib.hid xb
          have HJI : Hid (leftP L ts.length wr = ts.length + 1 - j) := Lib.hid (leftP_ok (xb.c 5 rfl) (xb.c 2 rfl))
          obtain ⟨c0, c1, c2, c3, c4, c5, c6⟩ := box7 xb
          have hj2 : (j : Int) < (ts.length : Int) := by omega
          clear td hX hC own hg h60 hsz hxs htt htb htb2 hkk xb I0 hj hlt
          go_wp2_with fail
          refine (H1.out _ I1.out).mono ?_
          rintro _ w2 ⟨rfl, b2⟩
          have XB2 := Lib.hid (XB0.out.on b2); have SA2 := Lib.hid (I1.out.on b2); have P2 := Lib.hid (I2.out.on b2); have HX2 := Lib.hid (HX.out.on b2); have OW2 := Lib.hid (own_kept OWN.out b2)
          have B2 := Lib.hid (I3.out.trans (b2.mono (Nat.le_of_lt I2.out.1)))
          clear b2 c0 c1 c2 c3 c4 c5 c6 XB0 I1 I2 I3 HX OWN H1
          obtain ⟨c0, c1, c2, c3, c4, c5, c6⟩ := box7 XB2.out
          go_wp2_with fail
          refine (H2.out _).mono ?_
          rintro _ w4 ⟨rfl, hw4⟩
          have b4 : Below w2.heap.size w2 w4 := by rw [← hw4]; exact (Below.refl _ _).alloc (Nat.le_refl _) _
          have XB4 := Lib.hid (XB2.out.on b4); have SA4 := Lib.hid (SA2.out.on b4); have P4 := Lib.hid (P2.out.on b4); have HX4 := Lib.hid (HX2.out.on b4); have OW4 := Lib.hid (own_kept OW2.out b4)
          have B4 := Lib.hid (B2.out.trans (b4.mono (Nat.le_of_lt P2.out.1)))
          clear b4 hw4 c0 c1 c2 c3 c4 c5 c6 XB2 SA2 P2 HX2 OW2 B2 H2
          obtain ⟨c0, c1, c2, c3, c4, c5, c6⟩ := box7 XB4.out
          obtain ⟨f0, f1, f2, f3, f4, f5, f6⟩ := box7f XB4.out
          by_cases hk : t ∈ PTree.kinds
          · have hkd : decide (t ∈ PTree.kinds) = true := decide_eq_true hk
            rw [hkd]
            clear hkd
            by_cases h59 : 59 < rs0.length
            · have HFB : Hid (F = some (.bad 9 (PTree.placeOf s.size (ts.drop j)))) := Lib.hid (by
                rw [PTree.pl_drop]
                exact PTree.toldR_err HT.out TD.out HJ.out (by unfold PTree.rule1; rw [if_neg (fun h => h (HKK.out.2 hk)), if_pos h59]))
              have hWR := Lib.hid (HWR.out 9 j (Nat.le_of_lt HJ.out))
              obtain ⟨pp, hpp⟩ : ∃ p, PTree.placeOf s.size (ts.drop j) = p := ⟨_, rfl⟩
              rw [hpp] at hWR HFB
              have g59 : (59 : Int) < (rs0.length : Int) := by omega
              clear HWR hpp hk
              go_wp2_with fail
              refine (hWR.out _ SA4.out).mono ?_
              rintro _ w5 ⟨rfl, b5⟩
              obtain ⟨w6, hw6, xb6, ON⟩ := store7 (XB4.out.on b5) (.slice A ts.length cap) (.int .i64 s.size) (.int .i64 j) (.slice B rs0.length rc) (.slice C xs.length k) (.int .i64 9) (.int .i64 pp)
              have XB6 := Lib.hid xb6
              have P6 := Lib.hid ((P4.out.on b5).only ON (Nat.ne_of_lt HLH.out))
              have B6 := Lib.hid (ON.below (Nat.le_of_lt HLH.out) (B4.out.trans (b5.mono (Nat.le_of_lt P4.out.1))))
              have HW6 := Lib.hid hw6
              have xb5 := XB4.out.on b5
              clear c0 c1 c2 c3 c4 c5 c6 f0 f1 f2 f3 f4 f5 f6
              obtain ⟨c0, c1, c2, c3, c4, c5, c6⟩ := box7 xb5
              obtain ⟨f0, f1, f2, f3, f4, f5, f6⟩ := box7f xb5
              clear xb5 b5 hw6 xb6 ON XB4 SA4 P4 HX4 OW4 B4 hWR TD HJ HC HGG H60 HSZ HXS HTT HTB HKK HJI
              go_upto_region 11 with fail
              rw [HW6.out]
              clear HW6 c0 c1 c2 c3 c4 c5 c6 f0 f1 f2 f3 f4 f5 f6 w5
              obtain ⟨c0, c1, c2, c3, c4, c5, c6⟩ := box7 XB6.out
              have FIN : Hid (Wrong L A cap s.size ts F w6) := Lib.hid ⟨B, rs0.length, rc, C, xs.length, k, _, 9, pp, XB6.out, by decide, HFB.out⟩
              clear XB6 HFB
              go_wp2_with fail
              go_meet
              exact ⟨Lib.hid (.inl FIN.out), P6, B6, HLH⟩
            · have g59 : ¬ (59 : Int) < (rs0.length : Int) := by omega
              obtain ⟨J, hJ⟩ : ∃ J, J = j + 1 := ⟨_, rfl⟩
              have gJ : (j : Int) + 1 = (J : Int) := by omega
              have hl2 : (j : Int) < 1000 := by omega
              have JJ := Lib.hid hJ
              clear hJ
              go_upto_region 13 with fail
              obtain ⟨w5, hw5⟩ : ∃ w5, w4.setCell ⟨L, 2, none⟩ (.int .i64 J) = w5 := ⟨_, rfl⟩
              have ON : Only L w4 w5 := by rw [← hw5]; exact (Only.refl L w4).set 2 _
              have XB5 : Hid (Box w5 L (stC (.slice A ts.length cap) (.slice B rs0.length rc) (.slice C xs.length k) s.size J 0 0)) := Lib.hid (by rw [← hw5]; exact XB4.out.set 2 (by simp [stC]) _)
              have SA5 := Lib.hid (SA4.out.only XB4.out (fun u => by simp [stC]) ON)
              have P5 := Lib.hid (P4.out.only ON (Nat.ne_of_lt HLH.out))
              have HX5 := Lib.hid (slr_only HX4.out XB4.out (fun u => by simp [stC]) ON)
              have OW5 : Hid (w5.ownsRow (L + 1) 78 3 (.slice B rs0.length rc) rs0.length (rowR.cells (PTree.rowsOf 0 rs0))) := Lib.hid (by rw [← hw5]; exact ownsRow_setCell_below OW4.out (by show L < L + 1; omega) _)
              have B5 := Lib.hid (ON.below (Nat.le_of_lt HLH.out) B4.out)
              rw [hw5]
              clear hw5 ON XB4 SA4 P4 HX4 OW4 B4 c0 c1 c2 c3 c4 c5 c6 f0 f1 f2 f3 f4 f5 f6
              obtain ⟨c0, c1, c2, c3, c4, c5, c6⟩ := box7 XB5.out
              obtain ⟨f0, f1, f2, f3, f4, f5, f6⟩ := box7f XB5.out
              by_cases hJl : J < ts.length
              · obtain ⟨bA, oA, rfl, hcA⟩ := SA5.out.at hJl
                obtain ⟨d0, d1, -⟩ := hcA J hJl
                have hsd := World.block_lt_of_cell? w5 _ d0
                obtain ⟨kn, hkn⟩ : ∃ n, ts[J].kind = n := ⟨_, rfl⟩
                obtain ⟨T1, hT⟩ : ∃ t, ts[J].text = t := ⟨_, rfl⟩
                rw [hkn] at d0
                rw [hT] at d1
                have HKD : Hid (kd ts (j + 1) = kn) := Lib.hid (by rw [← JJ.out]; unfold PTree.kd; rw [List.getElem?_eq_getElem hJl]; exact hkn)
                have HTX : Hid (tx ts (j + 1) = T1) := Lib.hid (by rw [← JJ.out, PTree.tx_at hJl]; exact hT)
                have HJL := Lib.hid hJl
                have gJl : ¬ (ts.length : Int) ≤ (J : Int) := by omega
                have gJl2 : (J : Int) < (ts.length : Int) := by omega
                clear hkn hT hcA
                by_cases hk1 : kn = 1
                · subst hk1
                  obtain ⟨ub, hub⟩ : ∃ b, ({ data := T1.toArray } : ByteArray) = b := ⟨_, rfl⟩
                  rw [hub] at d1
                  have H4 := Lib.hid (fun w => r8taken_any ub w)
                  have hub2 : ub.data.toList = T1 := by rw [← hub]
                  have HUB := Lib.hid hub2
                  rw [hub2] at H4
                  clear hub hub2
                  by_cases htk : T1 ∈ PTree.takenL
                  · have hdd : decide (T1 ∈ PTree.takenL) = true := decide_eq_true htk
                    rw [hdd] at H4
                    clear hdd
                    go_wp2_with fail
                    refine (H4.out _).mono ?_
                    rintro _ w5b ⟨rfl, b5⟩
                    have XB5 := Lib.hid (XB5.out.on b5); have SA5 := Lib.hid (SA5.out.on b5); have P5b := Lib.hid (P5.out.on b5); have HX5 := Lib.hid (HX5.out.on b5); have OW5 := Lib.hid (own_kept OW5.out b5)
                    have B5 := Lib.hid (B5.out.trans (b5.mono (Nat.le_of_lt P5.out.1)))
                    have P5 := P5b
                    clear b5 P5b c0 c1 c2 c3 c4 c5 c6 f0 f1 f2 f3 f4 f5 f6 d0 d1 hsd H4
                    obtain ⟨c0, c1, c2, c3, c4, c5, c6⟩ := box7 XB5.out
                    go_wp2_with fail
                    have HFB : Hid (F = some (.bad 2 (PTree.placeOf s.size (ts.drop J)))) := Lib.hid (by
                      rw [PTree.pl_drop]
                      exact PTree.toldR_err HT.out TD.out HJ.out (by unfold PTree.rule1; rw [if_neg (fun h => h (HKK.out.2 hk)), if_neg (by omega), if_pos (.inr (by rw [HTX.out]; exact htk)), JJ.out]))
                    have hWR := Lib.hid (HWR.out 2 J (by omega))
                    obtain ⟨pp, hpp⟩ : ∃ p, PTree.placeOf s.size (ts.drop J) = p := ⟨_, rfl⟩
                    rw [hpp] at hWR HFB
                    clear HWR hpp hk
                    refine (hWR.out _ SA5.out).mono ?_
                    rintro _ w6 ⟨rfl, b6⟩
                    obtain ⟨w7, hw7, xb7, ON⟩ := store7 (XB5.out.on b6) (.slice (some ⟨bA, oA, none⟩) ts.length cap) (.int .i64 s.size) (.int .i64 J) (.slice B rs0.length rc) (.slice C xs.length k) (.int .i64 2) (.int .i64 pp)
                    have XB7 := Lib.hid xb7
                    have P7 := Lib.hid ((P5.out.on b6).only ON (Nat.ne_of_lt HLH.out))
                    have B7 := Lib.hid (ON.below (Nat.le_of_lt HLH.out) (B5.out.trans (b6.mono (Nat.le_of_lt P5.out.1))))
                    have HW7 := Lib.hid hw7
                    have xb6 := XB5.out.on b6
                    (try clear c0 c1 c2 c3 c4 c5 c6 f0 f1 f2 f3 f4 f5 f6)
                    (try clear d0 d1 hsd)
                    obtain ⟨c0, c1, c2, c3, c4, c5, c6⟩ := box7 xb6
                    obtain ⟨f0, f1, f2, f3, f4, f5, f6⟩ := box7f xb6
                    clear xb6 b6 hw7 xb7 ON XB5 SA5 P5 HX5 OW5 B5 hWR TD HJ HC HGG H60 HSZ HXS HTT HTB HKK HJI JJ
                    have FIN : Hid (Wrong L (some ⟨bA, oA, none⟩) cap s.size ts F w7) := Lib.hid ⟨B, rs0.length, rc, C, xs.length, k, _, 2, pp, XB7.out, by decide, HFB.out⟩
                    clear XB7 HFB
                    go_wp2_with fail
                    go_meet
                    rw [HW7.out]
                    exact ⟨Lib.hid (.inl FIN.out), P7, B7, HLH⟩
                  · have hdd : decide (T1 ∈ PTree.takenL) = false := decide_eq_false htk
                    rw [hdd] at H4
                    clear hdd
                    obtain ⟨K, hK⟩ : ∃ K, K = J + 1 := ⟨_, rfl⟩
                    have gK : (J : Int) + 1 = (K : Int) := by omega
                    have hl3 : (J : Int) < 1000 := by omega
                    have KK := Lib.hid hK
                    have HK1 := Lib.hid hk
                    have HK2 := Lib.hid htk
                    have HK3 := Lib.hid h59
                    clear hK hk htk h59 HWR g59
                    go_wp2_with fail
                    refine (H4.out _).mono ?_
                    rintro _ w6 ⟨rfl, b6⟩
                    have D1 : w6.cell? ⟨bA, oA + J * 3 + 1, none⟩ = some (.string ub) := (b6.cell (p := ⟨bA, oA + J * 3 + 1, none⟩) hsd).trans d1
                    have hsd6 := World.block_lt_of_cell? w6 _ D1
                    have XB6 := Lib.hid (XB5.out.on b6); have SA6 := Lib.hid (SA5.out.on b6); have P6 := Lib.hid (P5.out.on b6); have HX6 := Lib.hid (HX5.out.on b6); have OW6 := Lib.hid (own_kept OW5.out b6)
                    have B6 := Lib.hid (B5.out.trans (b6.mono (Nat.le_of_lt P5.out.1)))
                    clear b6 c0 c1 c2 c3 c4 c5 c6 f0 f1 f2 f3 f4 f5 f6 d0 d1 hsd H4 XB5 SA5 P5 HX5 OW5 B5
                    obtain ⟨c0, c1, c2, c3, c4, c5, c6⟩ := box7 XB6.out
                    obtain ⟨f0, f1, f2, f3, f4, f5, f6⟩ := box7f XB6.out
                    go_upto_region 17 with fail
                    obtain ⟨w7, hw7⟩ : ∃ w7, w6.setCell ⟨L, 2, none⟩ (.int .i64 K) = w7 := ⟨_, rfl⟩
                    have ON : Only L w6 w7 := by rw [← hw7]; exact (Only.refl L w6).set 2 _
                    have XB7 : Hid (Box w7 L (stC (.slice (some ⟨bA, oA, none⟩) ts.length cap) (.slice B rs0.length rc) (.slice C xs.length k) s.size K 0 0)) := Lib.hid (by rw [← hw7]; exact XB6.out.set 2 (by simp [stC]) _)
                    have SA7 := Lib.hid (SA6.out.only XB6.out (fun u => by simp [stC]) ON)
                    have P7 := Lib.hid (P6.out.only ON (Nat.ne_of_lt HLH.out))
                    have HX7 := Lib.hid (slr_only HX6.out XB6.out (fun u => by simp [stC]) ON)
                    have OW7 : Hid (w7.ownsRow (L + 1) 78 3 (.slice B rs0.length rc) rs0.length (rowR.cells (PTree.rowsOf 0 rs0))) := Lib.hid (by rw [← hw7]; exact ownsRow_setCell_below OW6.out (by show L < L + 1; omega) _)
                    have B7 := Lib.hid (ON.below (Nat.le_of_lt HLH.out) B6.out)
                    rw [hw7]
                    have hxl : xs.length = PTree.sizeOf rs0 := by rw [← HXS.out, PTree.exprsOf_len]
                    have hx6 : xs.length + (ts.length - j) ≤ 600 := by have h1 := HSZ.out; have h2 := HTS.out; omega
                    obtain ⟨R0, hR0⟩ : ∃ r : Option (R Unit), r = some (.ok (ts.drop K) ()) := ⟨_, rfl⟩
                    obtain ⟨X0, hX0⟩ : ∃ X : Unit → List Ex, X = fun _ => xs := ⟨_, rfl⟩
                    have RS0 : Hid (RS ⟨some ⟨bA, oA, none⟩, cap, B, rs0.length, rc, s.size, 0, ts, G⟩ R0 X0 1000 C xs.length k K 0 0 w7) := Lib.hid (by
                      rw [hR0, hX0]
                      exact rs_start (c := ⟨some ⟨bA, oA, none⟩, cap, B, rs0.length, rc, s.size, 0, ts, G⟩) (j := K) HC.out HX7.out (by show K ≤ ts.length; have := KK.out; have := HJL.out; omega) (by omega))
                    have FX0 : Hid (Fx R0 X0 (ts.length - j) (xs.length + (ts.length - j))) := Lib.hid (by
                      intro ts' b e
                      rw [hR0] at e; cases e
                      have := KK.out; have := JJ.out; have := HJL.out
                      rw [List.length_drop, hX0]
                      show _ ∧ xs.length + _ + 1 ≤ _
                      omega)
                    have HR0 := Lib.hid hR0; have HX0 := Lib.hid hX0; have HXL := Lib.hid hxl; have HX6' := Lib.hid hx6
                    have IW : Hid (WholeC ⟨some ⟨bA, oA, none⟩, cap, B, rs0.length, rc, s.size, 0, ts, G⟩ (10 * ts.length + 10)) := Lib.hid (r8whole_any (c := ⟨some ⟨bA, oA, none⟩, cap, B, rs0.length, rc, s.size, 0, ts, G⟩) (by show ts.length ≤ 1000; have := HTS.out; omega) HTO.out)
                    clear hw7 ON XB6 SA6 P6 HX6 OW6 B6 c0 c1 c2 c3 c4 c5 c6 f0 f1 f2 f3 f4 f5 f6 D1 hsd6 hR0 hX0 hxl hx6 HX7
                    obtain ⟨c0, c1, c2, c3, c4, c5, c6⟩ := box7 XB7.out
                    go_wp2_with fail
                    refine (p8must RS0.out SA7.out (by have := HTS.out; omega) { data := #[61] } (by simp)).mono ?_
                    rintro _ w8 ⟨C1, n1, k1, i1, er1, p1, rfl, hR, b⟩
                    unfold stV
                    have XB8 := Lib.hid (XB7.out.on b); have SA8 := Lib.hid (SA7.out.on b); have P8 := Lib.hid (P7.out.on b); have OW8 := Lib.hid (own_kept OW7.out b)
                    have B8 := Lib.hid (B7.out.trans (b.mono (Nat.le_of_lt P7.out.1)))
                    have RS1 := Lib.hid hR
                    have FX1 := Lib.hid (FX0.out.word (en := s.size) (s := ({ data := #[61] } : ByteArray).data.toList) (by simp))
                    clear hR b c0 c1 c2 c3 c4 c5 c6 XB7 SA7 P7 OW7 B7 RS0 FX0
                    go_wp2_with fail
                    refine (p8whole (M := ts.length - j) (K := xs.length + (ts.length - j)) IW.out RS1.out FX1.out SA8.out (by omega) (by have := HX6'.out; omega) (by decide)).mono ?_
                    rintro _ w9 ⟨C2, n2, k2, i2, er2, p2, a2, rfl, hR, ha, b⟩
                    unfold stV
                    have XB9 := Lib.hid (XB8.out.on b); have SA9 := Lib.hid (SA8.out.on b); have P9 := Lib.hid (P8.out.on b); have OW9 := Lib.hid (own_kept OW8.out b)
                    have B9 := Lib.hid (B8.out.trans (b.mono (Nat.le_of_lt P8.out.1)))
                    have RS2 := Lib.hid hR; have AI := Lib.hid ha
                    clear hR ha b XB8 SA8 P8 OW8 B8 RS1 FX1 IW
                    obtain ⟨w10, hw10, YB, b10⟩ : ∃ w10, w9.alloc (.cells #[.slice (some ⟨bA, oA, none⟩) ts.length cap, .int .i64 s.size, .int .i64 i2, .slice B rs0.length rc, .slice C2 n2 k2, .int .i64 er2, .int .i64 p2] 68) = w10 ∧ Box w10 w9.heap.size [.slice (some ⟨bA, oA, none⟩) ts.length cap, .int .i64 s.size, .int .i64 i2, .slice B rs0.length rc, .slice C2 n2 k2, .int .i64 er2, .int .i64 p2] ∧ Below w9.heap.size w9 w10 := ⟨_, rfl, Box.new _ _ [.slice (some ⟨bA, oA, none⟩) ts.length cap, .int .i64 s.size, .int .i64 i2, .slice B rs0.length rc, .slice C2 n2 k2, .int .i64 er2, .int .i64 p2], (Below.refl _ _).alloc (Nat.le_refl _) _⟩
                    have XB10 := Lib.hid (XB9.out.on b10); have SA10 := Lib.hid (SA9.out.on b10); have P10 := Lib.hid (P9.out.on b10); have OW10 := Lib.hid (own_kept OW9.out b10); have RS3 := Lib.hid (RS2.out.on b10)
                    have B10 := Lib.hid (B9.out.trans (b10.mono (Nat.le_of_lt P9.out.1)))
                    obtain ⟨Y, hY⟩ : ∃ Y, w9.heap.size = Y := ⟨_, rfl⟩
                    rw [hY] at YB
                    have YB10 := Lib.hid YB; have HW10 := Lib.hid hw10; have HYY := Lib.hid hY
                    clear hw10 YB b10 hY XB9 SA9 P9 OW9 B9 RS2
                    go_upto_region 18 with fail
                    rw [HW10.out]
                    (try rw [HYY.out])
                    clear HW10 HYY
                    obtain ⟨y0, y1, y2, y3, y4, y5, y6⟩ := box7 YB10.out
                    go_wp2_with fail
                    refine (p8must RS3.out SA10.out (by have := HTS.out; omega) { data := #[59] } (by simp)).mono ?_
                    rintro _ w11 ⟨C3, n3, k3, i3, er3, p3, rfl, hR, b⟩
                    unfold stV
                    have xb11 := XB10.out.on b
                    obtain ⟨w12, hw12, xb12, ON⟩ := store7 xb11 (.slice (some ⟨bA, oA, none⟩) ts.length cap) (.int .i64 s.size) (.int .i64 i3) (.slice B rs0.length rc) (.slice C3 n3 k3) (.int .i64 er3) (.int .i64 p3)
                    have XB12 := Lib.hid xb12
                    have SA12 := Lib.hid ((SA10.out.on b).only xb11 (fun u => by simp [stC]) ON)
                    have P12 := Lib.hid ((P10.out.on b).only ON (Nat.ne_of_lt HLH.out))
                    have OW12 : Hid (w12.ownsRow (L + 1) 78 3 (.slice B rs0.length rc) rs0.length (rowR.cells (PTree.rowsOf 0 rs0))) := Lib.hid (by
                      rw [← hw12]
                      have h := own_kept OW10.out b
                      exact ownsRow_setCell_below (ownsRow_setCell_below (ownsRow_setCell_below (ownsRow_setCell_below (ownsRow_setCell_below (ownsRow_setCell_below (ownsRow_setCell_below h (Nat.lt_succ_self L) _) (Nat.lt_succ_self L) _) (Nat.lt_succ_self L) _) (Nat.lt_succ_self L) _) (Nat.lt_succ_self L) _) (Nat.lt_succ_self L) _) (Nat.lt_succ_self L) _)
                    have B12 := Lib.hid (ON.below (Nat.le_of_lt HLH.out) (B10.out.trans (b.mono (Nat.le_of_lt P10.out.1))))
                    have RS4 : Hid (RS ⟨some ⟨bA, oA, none⟩, cap, B, rs0.length, rc, s.size, 0, ts, G⟩ (Mx s.size [59] (Nx s.size .whole 1 (Mx s.size [61] R0))) (XN X0) 1000 C3 n3 k3 i3 er3 p3 w12) := Lib.hid (hR.only xb11 (fun u => by simp [stC]) ON)
                    have HW12 := Lib.hid hw12
                    clear y0 y1 y2 y3 y4 y5 y6
                    obtain ⟨c0, c1, c2, c3, c4, c5, c6⟩ := box7 xb11
                    obtain ⟨f0, f1, f2, f3, f4, f5, f6⟩ := box7f xb11
                    clear hR b xb11 hw12 xb12 ON XB10 SA10 P10 OW10 B10 RS3 YB10
                    go_upto_region 19 with fail
                    rw [HW12.out]
                    clear HW12 c0 c1 c2 c3 c4 c5 c6 f0 f1 f2 f3 f4 f5 f6 w11
                    obtain ⟨c0, c1, c2, c3, c4, c5, c6⟩ := box7 XB12.out
                    obtain ⟨f0, f1, f2, f3, f4, f5, f6⟩ := box7f XB12.out
                    obtain rfl : tb = { data := t.toArray } := by rw [← HTB.out]
                    obtain rfl : ub = { data := T1.toArray } := by rw [← HUB.out]
                    have hcn : (PTree.rowsOf 0 rs0).length = rs0.length := PTree.rowsOf_len 0 rs0
                    have OWr : Hid (w12.ownsRow (L + 1) 78 rowR.k (.slice B rs0.length rc) (PTree.rowsOf 0 rs0).length (rowR.cells (PTree.rowsOf 0 rs0))) := Lib.hid (by rw [hcn]; exact OW12.out)
                    have hn6 : (PTree.rowsOf 0 rs0).length + 1 ≤ 100000 := by rw [hcn]; have := H60.out; omega
                    have hcl : L + 1 ≤ w12.heap.size := XB12.out.1
                    clear OW12
                    go_wp2_with (at_builtin; refine append_rec_far ref_rowTy rfl _ _ rfl (L + 1) _ (PTree.rowsOf 0 rs0) ⟨t, T1, a2⟩ (by rfl) OWr.out (by rfl) hn6 hcl ?_)
                    intro v' w14 hown hg14 hat14
                    have FIN : Hid ((∃ VA vc, v' = .slice VA (rs0.length + 1) vc) ∧ (GoOn L (some ⟨bA, oA, none⟩) cap s.size ts F (w14.setCell ⟨L, 3, none⟩ v') ∨ Wrong L (some ⟨bA, oA, none⟩) cap s.size ts F (w14.setCell ⟨L, 3, none⟩ v')) ∧ SlT (w14.setCell ⟨L, 3, none⟩ v') (some ⟨bA, oA, none⟩) ts.length ts ∧ Box (w14.setCell ⟨L, 3, none⟩ v') H [.slice none 0 0, .slice none 0 0] ∧ Below H w (w14.setCell ⟨L, 3, none⟩ v') ∧ leftP L ts.length (w14.setCell ⟨L, 3, none⟩ v') < ts.length + 1 - j) := Lib.hid (by
                      have hh := HLH.out
                      have ba := (Below.refl w12.heap.size w12).alloc (Nat.le_refl _) (.cells (rowR.C ⟨t, T1, a2⟩).toArray 78)
                      obtain ⟨wa, hwa⟩ : ∃ wa, w12.alloc (.cells (rowR.C ⟨t, T1, a2⟩).toArray 78) = wa := ⟨_, rfl⟩
                      rw [hwa] at ba hg14
                      have hrow : ∀ g, (Value.slice B rs0.length rc).ownBlock = some g → L + 1 ≤ g := fun g e => (OWr.out.lt g e).1
                      have b14 : Below (L + 1) wa w14 := (Below.refl (L + 1) wa).grown hg14 (Nat.le_trans hcl ba.size) hrow
                      have b12 : Below (L + 1) w12 w14 := (ba.mono hcl).trans b14
                      have xb14 : Box w14 L (stC (.slice (some ⟨bA, oA, none⟩) ts.length cap) (.slice B rs0.length rc) (.slice C3 n3 k3) s.size i3 er3 p3) := XB12.out.keep b12 (Nat.lt_succ_self L)
                      have SA14 : SlT w14 (some ⟨bA, oA, none⟩) ts.length ts := slt_keep SA12.out (fun b off e hn => Nat.lt_succ_of_lt (SLT.out b off e hn)) b12
                      have SA15 : SlT (w14.setCell ⟨L, 3, none⟩ v') (some ⟨bA, oA, none⟩) ts.length ts := SA14.only xb14 (fun u => by simp [stC]) ((Only.refl L w14).set 3 v')
                      have P15 := (P12.out.keep b12 (Nat.lt_succ_of_lt hh)).far (p := ⟨L, 3, none⟩) (by show L ≠ H; omega) v'
                      have B15 : Below H w (w14.setCell ⟨L, 3, none⟩ v') := (B12.out.trans (b12.mono (by omega))).setCell (Nat.le_of_lt hh) v'
                      have xb15 : Box (w14.setCell ⟨L, 3, none⟩ v') L (stC (.slice (some ⟨bA, oA, none⟩) ts.length cap) v' (.slice C3 n3 k3) s.size i3 er3 p3) := xb14.set 3 (by simp [stC]) v'
                      (try rw [hcn] at hown)
                      obtain ⟨VA, vc, rfl, hva⟩ := own_slice hown
                      have own15 := ownsRow_setCell_below hown (a := ⟨L, 3, none⟩) (Nat.lt_succ_self L) (.slice VA (rs0.length + 1) vc)
                      have hrule : rule1 s.size rs0.length ts j = R.next (Mx s.size [59] (Nx s.size .whole 1 (Mx s.size [61] R0))) fun ts' q => some (.ok ts' ⟨tx ts j, tx ts (j + 1), q.2⟩) := by
                        unfold PTree.rule1
                        rw [if_neg (fun h => h (HKK.out.2 HK1.out)), if_neg HK3.out, if_neg (by rw [HKD.out, HTX.out]; exact fun h => h.elim (fun h => h rfl) HK2.out)]
                        simp only [Nx, Mx, HR0.out, next_assoc, next_some]
                        rw [show K = j + 2 by have := KK.out; have := JJ.out; omega]
                      have htx : tx ts j = t := by rw [← HTT.out]; exact ((PTree.textOf_tx HT.out j (PTree.kinds_wd HK1.out)).1 HTT.out).trans HTT.out.symm
                      rw [htx, HTX.out] at hrule
                      obtain ⟨r3, hr3⟩ : ∃ r, Mx s.size [59] (Nx s.size .whole 1 (Mx s.size [61] R0)) = r := ⟨_, rfl⟩
                      have RS5 := RS4.out
                      rw [hr3] at RS5 hrule
                      refine ⟨⟨VA, vc, rfl⟩, ?_, SA15, P15, B15, ?_⟩
                      · obtain ⟨hk3, ys, hys, hX3, hb3, hm⟩ := RS5
                        cases r3 with
                        | none => exact hm.elim
                        | some r3 =>
                          cases r3 with
                          | bad e q =>
                            obtain ⟨he, rfl, rfl⟩ := hm
                            refine .inr ⟨VA, rs0.length + 1, vc, C3, n3, k3, i3, e, q, xb15, by omega, ?_⟩
                            exact PTree.toldR_err HT.out TD.out HJ.out (by rw [hrule]; rfl)
                          | ok ts' qq =>
                            obtain ⟨hyx, rfl, rfl, j', rfl, hj', rfl⟩ := hm
                            have hrule : rule1 s.size rs0.length ts j = some (.ok (ts.drop j') ⟨t, T1, qq.2⟩) := hrule
                            have few := PTree.rule1_few hrule
                            rw [List.length_drop] at few
                            have hex : PTree.exprsOf 0 (rs0 ++ [⟨t, T1, qq.2⟩]) = ys := by
                              rw [PTree.exprsOf_append, hyx]
                              simp [PTree.exprsOf, XN, HX0.out, HXS.out, HXL.out]
                            have ha2 : a2 = xs.length + qq.2.size - 1 := by
                              obtain ⟨t1, q0, e1, e2⟩ := next_ok hr3
                              obtain ⟨t2, _, e3, e4⟩ := next_ok e2
                              cases e4
                              have := AI.out _ _ _ e1
                              rw [HX0.out] at this; exact this
                            have hrow2 : PTree.rowsOf 0 (rs0 ++ [⟨t, T1, qq.2⟩]) = PTree.rowsOf 0 rs0 ++ [⟨t, T1, a2⟩] := by
                              rw [PTree.rowsOf_append, ha2, HXL.out]
                              simp [PTree.rowsOf]
                            have hlen : (rs0 ++ [(⟨t, T1, qq.2⟩ : Rl)]).length = rs0.length + 1 := by simp
                            have hsz2 : PTree.sizeOf (rs0 ++ [(⟨t, T1, qq.2⟩ : Rl)]) = PTree.sizeOf rs0 + qq.2.size := by simp [PTree.sizeOf]
                            have hn0 : n3 ≠ 0 := by
                              rw [← hys, hyx]
                              have := qq.2.size_pos
                              simp only [XN, List.length_append, Tr.flat_len]; omega
                            obtain ⟨bC, oC, rfl, hcC⟩ := hX3.at (i := 0) (by omega)
                            have hltC : bC < w12.heap.size := World.block_lt_of_cell? w12 ⟨bC, _, none⟩ (hcC 0 (by omega) 0 _ rfl)
                            have hneC : bC ≠ G := hX3.2.2 _ rfl
                            have sx14 : SlX exR w14 (some ⟨bC, oC, none⟩) n3 ys := slx_gr8 exR_str (hX3.1.on ba) hg14 (fun a e => by
                              cases e
                              intro h
                              exact hneC (HGG.out _ h))
                            have sx15 : SlX exR (w14.setCell ⟨L, 3, none⟩ (.slice VA (rs0.length + 1) vc)) (some ⟨bC, oC, none⟩) n3 ys := slx_far exR_str sx14 xb14 (fun u => by simp [stC]) ((Only.refl L w14).set 3 _)
                            have hwas : wa.heap.size = w12.heap.size + 1 := by rw [← hwa]; simp
                            have h14 : w12.heap.size ≤ w14.heap.size := b12.size
                            obtain ⟨G', hG'⟩ : ∃ G', G' < w14.heap.size ∧ bC ≠ G' ∧ ∀ g, (Value.slice VA (rs0.length + 1) vc).ownBlock = some g → g = G' := by
                              rcases hat14 with h | h
                              · exact ⟨G, Nat.lt_of_lt_of_le hX3.2.1 h14, hneC, fun g e => HGG.out g (by rw [← h]; exact e)⟩
                              · exact ⟨w12.heap.size + 1, (hown.lt _ h).2, by omega, fun g e => by rw [h] at e; exact (Option.some.inj e).symm⟩
                            refine .inl ⟨rs0 ++ [⟨t, T1, qq.2⟩], j', VA, vc, some ⟨bC, oC, none⟩, k3, G', ?_, hk3, ?_, ?_, ?_, ?_, hj', ?_, ?_⟩
                            · rw [hlen, hex, hys]; exact xb15
                            · rw [hex, hys]; exact ⟨sx15, by simp only [World.size_setCell]; exact hG'.1, fun a e => by cases e; exact hG'.2.1⟩
                            · rw [hlen, hrow2]; exact own15
                            · rw [hlen]; exact hG'.2.2
                            · exact PTree.toldR_one HT.out TD.out HJ.out hrule
                            · rw [hlen]; have := HK3.out; omega
                            · rw [hsz2]; have := HSZ.out; simp only [] at few; omega
                      · obtain ⟨hk3, ys, hys, hX3, hb3, hm⟩ := RS5
                        cases r3 with
                        | none => exact hm.elim
                        | some r3 =>
                          cases r3 with
                          | bad e q =>
                            obtain ⟨he, rfl, rfl⟩ := hm
                            rw [leftP_bad (xb15.c 5 rfl) (by omega)]
                            have := HJ.out; omega
                          | ok ts' qq =>
                            obtain ⟨hyx, rfl, rfl, j', rfl, hj', rfl⟩ := hm
                            have hrule : rule1 s.size rs0.length ts j = some (.ok (ts.drop j') ⟨t, T1, qq.2⟩) := hrule
                            have few := PTree.rule1_few hrule
                            rw [List.length_drop] at few
                            have hsp := qq.2.size_pos
                            simp only [] at few
                            rw [leftP_ok (xb15.c 5 rfl) (xb15.c 2 rfl)]
                            have := HJ.out
                            omega)
                    have xb14 : w14.cell? ⟨L, 3, none⟩ = some (.slice B rs0.length rc) ∧ w14.frozen? ⟨L, 3, none⟩ = false ∧ L < w14.heap.size := by
                      have ba := (Below.refl w12.heap.size w12).alloc (Nat.le_refl _) (.cells (rowR.C ⟨t, T1, a2⟩).toArray 78)
                      have b14 := (Below.refl (L + 1) (w12.alloc (.cells (rowR.C ⟨t, T1, a2⟩).toArray 78))).grown hg14 (Nat.le_trans hcl ba.size) (fun g e => (OWr.out.lt g e).1)
                      have xb := XB12.out.keep ((ba.mono hcl).trans b14) (Nat.lt_succ_self L)
                      exact ⟨xb.c 3 rfl, xb.f 3 rfl, xb.1⟩
                    obtain ⟨g3, gf, gs3⟩ := xb14
                    obtain ⟨VA, vc, rfl⟩ := FIN.out.1
                    clear hown hg14 hat14 OWr hcl hcn hn6 c0 c1 c2 c3 c4 c5 c6 f0 f1 f2 f3 f4 f5 f6 XB12 SA12 P12 B12 RS4
                    go_wp2_with fail
                    exact ⟨⟨Lib.hid FIN.out.2.1, Lib.hid FIN.out.2.2.1, Lib.hid FIN.out.2.2.2.1, Lib.hid FIN.out.2.2.2.2.1⟩, by rw [HJI.out]; exact FIN.out.2.2.2.2.2⟩
                · have hk2 : (kn : Int) ≠ 1 := by omega
                  have hk3 : ((kn : Int) != 1) = true := by rw [bne_iff_ne]; exact hk2
                  go_wp2_with fail
                  have HFB : Hid (F = some (.bad 2 (PTree.placeOf s.size (ts.drop J)))) := Lib.hid (by
                    rw [PTree.pl_drop]
                    exact PTree.toldR_err HT.out TD.out HJ.out (by unfold PTree.rule1; rw [if_neg (fun h => h (HKK.out.2 hk)), if_neg (by omega), if_pos (.inl (by rw [HKD.out]; exact hk1)), JJ.out]))
                  have hWR := Lib.hid (HWR.out 2 J (by omega))
                  obtain ⟨pp, hpp⟩ : ∃ p, PTree.placeOf s.size (ts.drop J) = p := ⟨_, rfl⟩
                  rw [hpp] at hWR HFB
                  clear HWR hpp hk
                  refine (hWR.out _ SA5.out).mono ?_
                  rintro _ w6 ⟨rfl, b6⟩
                  obtain ⟨w7, hw7, xb7, ON⟩ := store7 (XB5.out.on b6) (.slice (some ⟨bA, oA, none⟩) ts.length cap) (.int .i64 s.size) (.int .i64 J) (.slice B rs0.length rc) (.slice C xs.length k) (.int .i64 2) (.int .i64 pp)
                  have XB7 := Lib.hid xb7
                  have P7 := Lib.hid ((P5.out.on b6).only ON (Nat.ne_of_lt HLH.out))
                  have B7 := Lib.hid (ON.below (Nat.le_of_lt HLH.out) (B5.out.trans (b6.mono (Nat.le_of_lt P5.out.1))))
                  have HW7 := Lib.hid hw7
                  have xb6 := XB5.out.on b6
                  (try clear c0 c1 c2 c3 c4 c5 c6 f0 f1 f2 f3 f4 f5 f6)
                  (try clear d0 d1 hsd)
                  obtain ⟨c0, c1, c2, c3, c4, c5, c6⟩ := box7 xb6
                  obtain ⟨f0, f1, f2, f3, f4, f5, f6⟩ := box7f xb6
                  clear xb6 b6 hw7 xb7 ON XB5 SA5 P5 HX5 OW5 B5 hWR TD HJ HC HGG H60 HSZ HXS HTT HTB HKK HJI JJ
                  have FIN : Hid (Wrong L (some ⟨bA, oA, none⟩) cap s.size ts F w7) := Lib.hid ⟨B, rs0.length, rc, C, xs.length, k, _, 2, pp, XB7.out, by decide, HFB.out⟩
                  clear XB7 HFB
                  go_wp2_with fail
                  go_meet
                  rw [HW7.out]
                  exact ⟨Lib.hid (.inl FIN.out), P7, B7, HLH⟩
              · have hJe : J = ts.length := by have := HJ.out; have := JJ.out; omega
                have gJl : (ts.length : Int) ≤ (J : Int) := by omega
                have HKD : Hid (kd ts (j + 1) ≠ 1) := Lib.hid (by rw [← JJ.out]; unfold PTree.kd; rw [List.getElem?_eq_none (by omega)]; decide)
                have hJle : J ≤ ts.length := by omega
                clear hJe hJl
                go_wp2_with fail
                have HFB : Hid (F = some (.bad 2 (PTree.placeOf s.size (ts.drop J)))) := Lib.hid (by
                  rw [PTree.pl_drop]
                  exact PTree.toldR_err HT.out TD.out HJ.out (by unfold PTree.rule1; rw [if_neg (fun h => h (HKK.out.2 hk)), if_neg (by omega), if_pos (.inl HKD.out), JJ.out]))
                have hWR := Lib.hid (HWR.out 2 J (by omega))
                obtain ⟨pp, hpp⟩ : ∃ p, PTree.placeOf s.size (ts.drop J) = p := ⟨_, rfl⟩
                rw [hpp] at hWR HFB
                clear HWR hpp hk
                refine (hWR.out _ SA5.out).mono ?_
                rintro _ w6 ⟨rfl, b6⟩
                obtain ⟨w7, hw7, xb7, ON⟩ := store7 (XB5.out.on b6) (.slice A ts.length cap) (.int .i64 s.size) (.int .i64 J) (.slice B rs0.length rc) (.slice C xs.length k) (.int .i64 2) (.int .i64 pp)
                have XB7 := Lib.hid xb7
                have P7 := Lib.hid ((P5.out.on b6).only ON (Nat.ne_of_lt HLH.out))
                have B7 := Lib.hid (ON.below (Nat.le_of_lt HLH.out) (B5.out.trans (b6.mono (Nat.le_of_lt P5.out.1))))
                have HW7 := Lib.hid hw7
                have xb6 := XB5.out.on b6
                (try clear c0 c1 c2 c3 c4 c5 c6 f0 f1 f2 f3 f4 f5 f6)
                (try clear d0 d1 hsd)
                obtain ⟨c0, c1, c2, c3, c4, c5, c6⟩ := box7 xb6
                obtain ⟨f0, f1, f2, f3, f4, f5, f6⟩ := box7f xb6
                clear xb6 b6 hw7 xb7 ON XB5 SA5 P5 HX5 OW5 B5 hWR TD HJ HC HGG H60 HSZ HXS HTT HTB HKK HJI JJ
                have FIN : Hid (Wrong L A cap s.size ts F w7) := Lib.hid ⟨B, rs0.length, rc, C, xs.length, k, _, 2, pp, XB7.out, by decide, HFB.out⟩
                clear XB7 HFB
                go_wp2_with fail
                go_meet
                rw [HW7.out]
                exact ⟨Lib.hid (.inl FIN.out), P7, B7, HLH⟩
          · have hkd : decide (t ∈ PTree.kinds) = false := decide_eq_false hk
            rw [hkd]
            clear hkd
            have HFB : Hid (F = some (.bad 2 (PTree.placeOf s.size (ts.drop j)))) := Lib.hid (by
              rw [PTree.pl_drop]
              exact PTree.toldR_err HT.out TD.out HJ.out (by unfold PTree.rule1; rw [if_pos (fun h => hk (HKK.out.1 h))]))
            have hWR := Lib.hid (HWR.out 2 j (Nat.le_of_lt HJ.out))
            obtain ⟨pp, hpp⟩ : ∃ p, PTree.placeOf s.size (ts.drop j) = p := ⟨_, rfl⟩
            rw [hpp] at hWR HFB
            clear HWR hpp hk
            go_wp2_with fail
            refine (hWR.out _ SA4.out).mono ?_
            rintro _ w5 ⟨rfl, b5⟩
            obtain ⟨w6, hw6, xb6, ON⟩ := store7 (XB4.out.on b5) (.slice A ts.length cap) (.int .i64 s.size) (.int .i64 j) (.slice B rs0.length rc) (.slice C xs.length k) (.int .i64 2) (.int .i64 pp)
            have XB6 := Lib.hid xb6
            have P6 := Lib.hid ((P4.out.on b5).only ON (Nat.ne_of_lt HLH.out))
            have B6 := Lib.hid (ON.below (Nat.le_of_lt HLH.out) (B4.out.trans (b5.mono (Nat.le_of_lt P4.out.1))))
            have HW6 := Lib.hid hw6
            have xb5 := XB4.out.on b5
            clear c0 c1 c2 c3 c4 c5 c6 f0 f1 f2 f3 f4 f5 f6
            obtain ⟨c0, c1, c2, c3, c4, c5, c6⟩ := box7 xb5
            obtain ⟨f0, f1, f2, f3, f4, f5, f6⟩ := box7f xb5
            clear xb5 b5 hw6 xb6 ON XB4 SA4 P4 HX4 OW4 B4 hWR TD HJ HC HGG H60 HSZ HXS HTT HTB HKK HJI
            go_upto_region 11 with fail
            rw [HW6.out]
            clear HW6 c0 c1 c2 c3 c4 c5 c6 f0 f1 f2 f3 f4 f5 f6 w5
            obtain ⟨c0, c1, c2, c3, c4, c5, c6⟩ := box7 XB6.out
            have FIN : Hid (Wrong L A cap s.size ts F w6) := Lib.hid ⟨B, rs0.length, rc, C, xs.length, k, _, 2, pp, XB6.out, by decide, HFB.out⟩
            clear XB6 HFB
            go_wp2_with fail
            go_meet
            exact ⟨Lib.hid (.inl FIN.out), P6, B6, HLH⟩
        · obtain rfl : j = ts.length := by omega
          rw [List.drop_of_length_le (Nat.le_refl _)] at td
          have HF2 := PTree.toldR_last td
          have FIN : Hid (Whole8 L A cap s.size ts F wr) := Lib.hid (by
            obtain ⟨A', c', e, e2, _, sl⟩ := slr_of_own own (PTree.rowsOf_len 0 rs0)
            cases e
            exact ⟨rs0, B, rc, C, k, _, xb, hC, e2, hX.1, sl, HF2⟩)
          obtain ⟨c0, c1, c2, c3, c4, c5, c6⟩ := box7 xb
          clear xb hC hX own hg td hj h60 hsz HF2 hlt I0 I1
          go_wp2_with fail
          go_meet
          exact ⟨Lib.hid (.inr FIN.out), I2, I3, HLH⟩
      · obtain ⟨B, rn, rc, C, n, k, i, e, q, xb, he, hF2⟩ := h
        have FIN : Hid (Wrong L A cap s.size ts F wr) := Lib.hid ⟨B, rn, rc, C, n, k, i, e, q, xb, he, hF2⟩
        obtain ⟨c0, c1, c2, c3, c4, c5, c6⟩ := box7 xb
        have e1 : ((e : Nat) : Int) ≠ 0 := by omega
        have e2 : (((e : Nat) : Int) == 0) = false := by rw [beq_eq_false_iff_ne]; exact e1
        clear xb he hF2 I0 I1 c0 c1 c3 c4 c6
        by_cases hi : i < (ts.length : Int)
        all_goals
          go_wp2_with fail
          go_meet
          exact ⟨Lib.hid (.inl FIN.out), I2, I3, HLH⟩
  case rest =>
    obtain ⟨hd, hP, hB, hHL⟩ := hcut
    clear GO3 SA3 P3 B3 XB3 SLT HLH HT HTO HTS HF
    rcases hd.out with h | h
    · obtain ⟨B, rn, rc, C, n, k, i, e, q, xb, he, rfl⟩ := h
      obtain ⟨c0, c1, c2, c3, c4, c5, c6⟩ := box7 xb
      obtain ⟨wz, hwz, PZ, ON⟩ := store2 hP.out (.slice none 0 0) (.slice none 0 0)
      have PZ : Box wz.drew H [.slice none 0 0, .slice none 0 0] := PZ
      obtain ⟨d0, d1⟩ := box2 hP.out
      obtain ⟨f0, f1⟩ := box2f hP.out
      obtain ⟨q0, q1⟩ := box2 PZ
      rw [← hwz] at q0 q1
      have hsp := hP.out.1
      have HWZ := Lib.hid hwz
      have BZ := Lib.hid ((ON.below (Nat.le_refl _) hB.out).drew)
      have e1 : ((e : Nat) : Int) ≠ 0 := by omega
      have e2 : (((e : Nat) : Int) != 0) = true := by rw [bne_iff_ne]; exact e1
      have HE0 := Lib.hid he
      obtain ⟨ee, hee⟩ : ∃ x : Int, ((e : Nat) : Int) = x := ⟨_, rfl⟩
      rw [hee] at e1 e2 c5
      have HEE := Lib.hid hee
      obtain ⟨pp, hpp⟩ : ∃ p : Int, ((q : Nat) : Int) = p := ⟨_, rfl⟩
      rw [hpp] at c6
      have HPP := Lib.hid hpp
      have gH : ¬ H = L := Nat.ne_of_lt hHL.out
      have gH' : ¬ L = H := fun e => gH e.symm
      clear hd hP hB xb PZ ON hwz he hee hpp c0 c1 c2 c3 c4 e1
      go_upto_region 21 with fail
      go_region
      go_wp2_with fail
      (try simp only [Exit.inBlock, Exit.then])
      refine bodyPost_ret (by simp [results, Tryz.results9, go_sem, q0, q1]; try rfl) rfl ?_
      rw [HWZ.out, ← HQ.out, ← HEE.out, ← HPP.out]
      exact ⟨by rw [HH.out]; exact BZ.out, rfl, HE0.out⟩
    · obtain ⟨rs0, B, rc, C, k, i, xb, hC, hBn, hX, hR, rfl⟩ := h
      obtain ⟨c0, c1, c2, c3, c4, c5, c6⟩ := box7 xb
      obtain ⟨wz, hwz, PZ, ON⟩ := store2 hP.out (.slice B rs0.length rc) (.slice C (PTree.exprsOf 0 rs0).length k)
      obtain ⟨d0, d1⟩ := box2 hP.out
      obtain ⟨f0, f1⟩ := box2f hP.out
      obtain ⟨q0, q1⟩ := box2 PZ
      rw [← hwz] at q0 q1
      have hsp := hP.out.1
      have hel := PTree.exprsOf_len 0 rs0
      have FIN : Hid (TreeAnsR (some (.ok [] rs0)) w (.returned (.tuple #[.agg #[.slice B rs0.length rc, .slice C (PTree.exprsOf 0 rs0).length k], .int .i64 0, .int .i64 0])) wz) := Lib.hid (by
        refine ⟨by rw [HH.out]; exact ON.below (Nat.le_refl _) hB.out, B, rc, C, k, by rw [hel], hBn, hC, slx_far rowR_str hR hP.out (by simp) ON, ?_⟩
        rw [← hel]
        exact slx_far exR_str hX hP.out (by simp) ON)
      have HWZ := Lib.hid hwz
      have gH : ¬ H = L := Nat.ne_of_lt hHL.out
      have gH' : ¬ L = H := fun e => gH e.symm
      clear hd hP hB xb PZ ON hwz hel hC hBn hX hR c0 c1 c2 c6
      go_wp2_with fail
      (try simp only [Exit.inBlock, Exit.then])
      refine bodyPost_ret (by simp [results, Tryz.results9, go_sem, q0, q1]; try rfl) rfl ?_
      rw [HWZ.out, ← HQ.out]
      exact FIN.out
theorem r8parse_any (s : ByteArray) (w : World) (hs : s.size ≤ 600) :
    Calls Tryz.prog 9 #[.string s] w (TreeAnsR (PTree.parse s.data.toList) w) := by
  obtain ⟨r, hr⟩ : ∃ r, PLex.all PLex.kindOf 0 s.data.toList = r := ⟨_, rfl⟩
  obtain ⟨q, ts⟩ := r
  cases q with
  | none => exact r8parse_toks w hs hr
  | some q => exact r8parse_lex w (by omega) (by rw [hr])
end Go.Proofs.YtdkcdgjpcojdfaaGreatDoor
