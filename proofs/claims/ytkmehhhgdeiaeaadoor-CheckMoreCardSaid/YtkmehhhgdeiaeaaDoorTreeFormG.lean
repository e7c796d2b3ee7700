/-
  What the landed reader answers: words, and behind each of them an expression.
-/
import Derived.Test.YtkmehhhgdeiaeaaDoorTreeSecG
import Derived.Deep.DeepCutAuto
namespace PTree
open PLex (Tok)
/-- Words, and behind each of them an expression. -/
def partsA (en d : Nat) : List (List UInt8) → List Tr → List Tok → Option (R (List Tr))
  | [], acc, ts => some (.ok ts acc)
  | s :: r, acc, ts => R.next (must en s ts) fun t1 _ => R.next (ex en .whole (d + 1) t1) fun t2 a => partsA en d r (acc ++ [a]) t2
def flatL : List Tr → Nat → List Ex
  | [], _ => []
  | t :: r, o => t.flat o ++ flatL r (o + t.size)
def sizeL (l : List Tr) : Nat := (l.map Tr.size).sum
def posL : List Tr → Nat → List Nat
  | [], _ => []
  | t :: r, o => (o + t.size - 1) :: posL r (o + t.size)
theorem sizeL_snoc (l : List Tr) (t : Tr) : sizeL (l ++ [t]) = sizeL l + t.size := by simp [sizeL]
theorem flatL_len : ∀ (l : List Tr) (o : Nat), (flatL l o).length = sizeL l
  | [], _ => rfl
  | t :: r, o => by simp only [flatL, List.length_append, Tr.flat_len, flatL_len, sizeL, List.map_cons, List.sum_cons]
theorem flatL_snoc : ∀ (l : List Tr) (t : Tr) (o : Nat), flatL (l ++ [t]) o = flatL l o ++ t.flat (o + sizeL l)
  | [], t, o => by simp [flatL, sizeL]
  | s :: r, t, o => by
    simp only [List.cons_append, flatL, flatL_snoc, List.append_assoc, sizeL, List.map_cons, List.sum_cons]
    rw [Nat.add_assoc]
theorem posL_len : ∀ (l : List Tr) (o : Nat), (posL l o).length = l.length
  | [], _ => rfl
  | t :: r, o => by simp only [posL, List.length_cons, posL_len]
theorem posL_snoc : ∀ (l : List Tr) (t : Tr) (o : Nat), posL (l ++ [t]) o = posL l o ++ [o + sizeL l + t.size - 1]
  | [], t, o => by simp [posL, sizeL]
  | s :: r, t, o => by
    simp only [List.cons_append, posL, posL_snoc, sizeL, List.map_cons, List.sum_cons]
    rw [Nat.add_assoc o s.size]
/-- The places of so many parts, and noughts. -/
def pos3 (l : List Tr) (o k : Nat) : Nat := (posL l o).getD k 0
theorem pos3_snoc_old {l : List Tr} {t : Tr} {o k : Nat} (h : k ≠ l.length) : pos3 (l ++ [t]) o k = pos3 l o k := by
  unfold pos3
  rw [posL_snoc]
  by_cases hk : k < l.length
  · simp [List.getD, List.getElem?_append_left (show k < (posL l o).length by rw [posL_len]; exact hk)]
  · simp only [List.getD]
    rw [List.getElem?_append_right (by rw [posL_len]; omega), posL_len, List.getElem?_eq_none (l := posL l o) (by rw [posL_len]; omega), List.getElem?_eq_none (by simp; omega)]
theorem pos3_snoc_new {l : List Tr} {t : Tr} {o : Nat} : pos3 (l ++ [t]) o l.length = o + sizeL l + t.size - 1 := by
  unfold pos3
  rw [posL_snoc]
  simp only [List.getD]
  rw [List.getElem?_append_right (by rw [posL_len]; exact Nat.le_refl _), posL_len]; simp
end PTree
namespace Go.Proofs.YtkmehhhgdeiaeaaDoor
open Go.RowKit
open PTree (R Ex Tr Md tx kd pl partsA flatL sizeL pos3)
variable {c : Rc} {w w' : World} {j : Nat} {xs : List Ex}

theorem Fr.set {X o b : Nat} {v : Value} (h : Fr c w b) (hX : X ≠ c.H) : Fr c (w.setCell ⟨X, o, none⟩ v) b :=
  ⟨by simp only [World.size_setCell]; exact h.1, h.2.1, fun V e => h.2.2 V (by rw [World.cell?_setCell_far _ _ _ _ (by exact hX)] at e; exact e)⟩
/-- A store elsewhere turns nothing of the reader. -/
theorem Rd.set {X o : Nat} {v : Value} (h : Rd c w j xs) (hf : Fr c w X) (hX : c.H < X) : Rd c (w.setCell ⟨X, o, none⟩ v) j xs := by
  obtain ⟨h1, h2, h3, h4, h7, V, h5, h6⟩ := h
  refine ⟨h1, h2.keep ((Below.refl c.H w).setCell (Nat.le_of_lt hX) v) h1, h3, h4, h7, V, h5.far (by exact Nat.ne_of_gt hX) v, ?_⟩
  have hne := hf.2.2 V (h5.c 1 rfl)
  obtain ⟨g1, g2⟩ := h6
  refine ⟨g1, ?_⟩
  rcases g2 with g2 | ⟨g, cap, cur, hv, hg, hh, r⟩
  · exact .inl g2
  · refine .inr ⟨g, cap, cur, hv, hg, ?_, r⟩
    rw [Below.heap_setCell _ _ _ _ (fun e => hne (by rw [hv]; simpa [Value.ownBlock] using e))]; exact hh
/-- An error, handed on. -/
theorem rst_fwd {r : Option (R Tr)} {a er : Int} {xs : List Ex} {α : Type} (h : RSt c xs r a er w) (he : er ≠ 0) (k : List PLex.Tok → Tr → Option (R α)) : ∃ j ys e q, Rd c w j ys ∧ R.next r k = some (.bad e q) ∧ er = (e : Nat) ∧ e ≠ 0 ∧ pl c.en c.ls j = q := by
  obtain ⟨j, ys, h1, h2⟩ := h
  cases r with
  | none => exact h2.elim
  | some r =>
    cases r with
    | bad e q => exact ⟨j, ys, e, q, h1, rfl, h2⟩
    | ok ts t => exact absurd h2.1 he
theorem pos3_set {l : List Tr} {t : Tr} {o k : Nat} (hk : l.length = k) (h3 : k < 3) : ([.int .i64 (pos3 l o 0 : Nat), .int .i64 (pos3 l o 1 : Nat), .int .i64 (pos3 l o 2 : Nat)] : List Value).set k (.int .i64 ((o + sizeL l + t.size - 1 : Nat) : Int)) = [.int .i64 (pos3 (l ++ [t]) o 0 : Nat), .int .i64 (pos3 (l ++ [t]) o 1 : Nat), .int .i64 (pos3 (l ++ [t]) o 2 : Nat)] := by
  have hn := PTree.pos3_snoc_new (l := l) (t := t) (o := o)
  have ho : ∀ i, i ≠ l.length → pos3 (l ++ [t]) o i = pos3 l o i := fun i hi => PTree.pos3_snoc_old hi
  subst hk
  have : l.length = 0 ∨ l.length = 1 ∨ l.length = 2 := by omega
  rcases this with h | h | h
  · rw [h] at hn ho ⊢; rw [hn, ho 1 (by omega), ho 2 (by omega)]; rfl
  · rw [h] at hn ho ⊢; rw [hn, ho 0 (by omega), ho 2 (by omega)]; rfl
  · rw [h] at hn ho ⊢; rw [hn, ho 0 (by omega), ho 1 (by omega)]; rfl
def ExprC (c : Rc) (N : Nat) : Prop := ∀ (d j : Nat) (xs : List Ex) (w : World), 10 * (c.ls.length - j) + 9 < N → d ≤ 21 → Rd c w j xs → xs.length + (c.ls.length - j) ≤ 5000 →
  Calls Tryd.prog 40 #[c.p, .int .i64 d] w (RAns c xs (PTree.ex c.en .whole d (c.ls.drop j)) w)
/-- Expressions, in memory, and the row that they make. -/
def FAns (c : Rc) (xs : List Ex) (u : List UInt8) (r : Option (R (List Tr))) (w : World) (e : Ending) (w' : World) : Prop :=
  ∃ a er j ys, e = .returned (.tuple #[.int .i64 a, .int .i64 er]) ∧ Below c.H w w' ∧ Kp c w w' ∧ Rd c w' j ys ∧ match r with
    | none => False
    | some (.bad e q) => er = (e : Nat) ∧ e ≠ 0 ∧ pl c.en c.ls j = q
    | some (.ok ts l) => er = 0 ∧ ts = c.ls.drop j ∧ ys = xs ++ flatL l xs.length ++ [⟨u, [], 0, pos3 l xs.length 0, pos3 l xs.length 1, pos3 l xs.length 2⟩] ∧ a = ((xs.length + sizeL l : Nat) : Int)
def strC (ws : List (List UInt8)) : List Value := ws.map (fun s => Value.string ⟨s.toArray⟩)
theorem strC_at {ws : List (List UInt8)} {i : Nat} (h : i < ws.length) : (strC ws)[i]? = some (.string ⟨ws[i].toArray⟩) := by unfold strC; simp [h]
/-- An expression's row, but for its parts. -/
def zeroU (u : ByteArray) : List Value := [.string u, .string ⟨#[]⟩, .int .i64 0, .int .i64 0, .int .i64 0, .int .i64 0]
theorem form_enter (w : World) (t t2 : TypeId) (u : ByteArray) : ∃ w1, (w.alloc (.cells (zeroU u).toArray t)).alloc (.cells #[.int .i64 0, .int .i64 0, .int .i64 0] t2) = w1 ∧ Box w1 w.heap.size (zeroU u) ∧ Box w1 (w.heap.size + 1) [.int .i64 0, .int .i64 0, .int .i64 0] ∧ Below w.heap.size w w1 ∧ w1.heap.size = w.heap.size + 2 :=
  ⟨_, rfl, (Box.new w t (zeroU u)).alloc _, Box.new' _ t2 [.int .i64 0, .int .i64 0, .int .i64 0] (by simp), ((Below.refl _ _).alloc (Nat.le_refl _) _).alloc (by simp) _, by simp⟩
set_option maxRecDepth 100000 in
set_option maxHeartbeats 6400000 in
theorem form_any {N d : Nat} (ht : PTree.Toks c.ls) (IE : ExprC c N) {ws : List (List UInt8)} {W : Nat} {u : List UInt8} (h : Rd c w j xs) (hW : Box w W (strC ws)) (fW : Fr c w W) (hm : ws.length ≤ 3) (hws : ∀ s ∈ ws, PTree.Wd s) (hN : 10 * (c.ls.length - j) ≤ N) (hd : d ≤ 20) (hB : xs.length + (c.ls.length - j) ≤ 5000) :
    Calls Tryd.prog 51 #[c.p, .agg #[.string ⟨u.toArray⟩, .string ⟨#[]⟩, .int .i64 0, .int .i64 0, .int .i64 0, .int .i64 0], .int .i64 d, .slice (some ⟨W, 0, none⟩) ws.length ws.length] w (FAns c xs u (partsA c.en d ws [] (c.ls.drop j)) w) := by
  obtain ⟨Q, hQ⟩ : ∃ Q, FAns c xs u (partsA c.en d ws [] (c.ls.drop j)) w = Q := ⟨_, rfl⟩
  rw [hQ]
  have HQ := Lib.hid hQ
  have HR := Lib.hid h
  have HWB := Lib.hid hW; have FW := Lib.hid fW
  obtain ⟨D, hD⟩ : ∃ D, D = d + 1 := ⟨_, rfl⟩
  have gD : (d : Int) + 1 = (D : Int) := by omega
  have DD := Lib.hid hD
  have HB := Lib.hid hB; have HN := Lib.hid hN; have HWS := Lib.hid hws; have HT := Lib.hid ht; have IE := Lib.hid IE
  have hd9 : (d : Int) ≤ 20 := by omega
  have HD := Lib.hid hd
  obtain ⟨m, hmm⟩ : ∃ m, ws.length = m := ⟨_, rfl⟩
  rw [hmm] at hm ⊢
  have HMM := Lib.hid hmm
  clear hQ h hW fW hD hB hN hws ht hd hmm
  unfold Rc.p
  go_enter Tryd.func51, Tryd.ntmps51
  go_wp2_with fail
  obtain ⟨F, hF⟩ : ∃ F, partsA c.en d ws [] (c.ls.drop j) = F := ⟨_, rfl⟩
  obtain ⟨w1, hw1, XB, PB, b1, hs1⟩ := form_enter w 45 65 ⟨u.toArray⟩
  unfold zeroU at hw1
  rw [hw1]
  have R1 := HR.out.on b1
  have B1 := b1.mono (Nat.le_of_lt HR.out.lt)
  have K1 := Kp.below HR.out.lt b1
  have FX := HR.out.fresh (Nat.le_refl _) (show w.heap.size < w1.heap.size by omega) b1
  have FP := HR.out.fresh (Nat.le_succ _) (show w.heap.size + 1 < w1.heap.size by omega) b1
  have W1 := HWB.out.kp FW.out K1
  have FW1 := (K1 _ FW.out).1
  obtain ⟨L, hL⟩ : ∃ L, w.heap.size = L := ⟨_, rfl⟩
  have hLH : L ≠ c.H ∧ L + 1 ≠ c.H ∧ W ≠ L ∧ W ≠ L + 1 := by
    have := HR.out.lt; have := FW.out.1; omega
  rw [hL] at XB PB FX FP ⊢
  have HLH := Lib.hid hLH; have HL := Lib.hid hL; have HF := Lib.hid hF
  have HR2 := Lib.hid HR.out.lt
  have hm3 : (m : Int) ≤ 3 := by omega
  have I0 : Hid (Rd c w1 j (xs ++ flatL [] xs.length)) := Lib.hid (by simpa [flatL] using R1)
  have I1 : Hid (partsA c.en d (ws.drop 0) [] (c.ls.drop j) = F) := Lib.hid (by rw [List.drop_zero]; exact hF)
  have I2 := Lib.hid K1; have I3 := Lib.hid B1
  have I4 : Hid (Box w1 (L + 1) [.int .i64 (pos3 [] xs.length 0 : Nat), .int .i64 (pos3 [] xs.length 1 : Nat), .int .i64 (pos3 [] xs.length 2 : Nat)]) := Lib.hid PB
  have I5 := Lib.hid FP; have I6 := Lib.hid XB; have I7 := Lib.hid FX; have I8 := Lib.hid W1; have I9 := Lib.hid FW1
  have I10 : Hid (sizeL [] + (c.ls.length - j) ≤ c.ls.length - j ∧ j ≤ j) := Lib.hid (by simp [sizeL])
  clear hw1 hF XB PB b1 hs1 R1 B1 K1 FX FP W1 FW1 hL hLH HWB FW HR
  go_loopw [17] (fun i wr => ∃ (k : Nat) (acc : List Tr) (j' : Nat), k ≤ m ∧ i = .int .i64 k ∧ Hid (acc.length = k) ∧ Hid (Rd c wr j' (xs ++ flatL acc xs.length)) ∧ Hid (partsA c.en d (ws.drop k) acc (c.ls.drop j') = F) ∧ Hid (Kp c w wr) ∧ Hid (Below c.H w wr) ∧ Hid (Box wr (L + 1) [.int .i64 (pos3 acc xs.length 0 : Nat), .int .i64 (pos3 acc xs.length 1 : Nat), .int .i64 (pos3 acc xs.length 2 : Nat)]) ∧ Hid (Fr c wr (L + 1)) ∧ Hid (Box wr L (zeroU ⟨u.toArray⟩)) ∧ Hid (Fr c wr L) ∧ Hid (Box wr W (strC ws)) ∧ Hid (Fr c wr W) ∧ Hid (sizeL acc + (c.ls.length - j') ≤ c.ls.length - j ∧ j ≤ j')) (fun i _ => m - (intOf i).toNat)
  case atStart => exact ⟨0, [], j, Nat.zero_le _, rfl, (show Hid _ from rfl), I0, I1, I2, I3, I4, I5, I6, I7, I8, I9, I10⟩
  case round =>
    clear I0 I1 I2 I3 I4 I5 I6 I7 I8 I9 I10
    obtain ⟨k, acc, j', hk, rfl, HA, I0, I1, I2, I3, I4, I5, I6, I7, I8, I9, I10⟩ := hrel
    by_cases hlt : k < m
    · have hlw : k < ws.length := by rw [HMM.out]; exact hlt
      have w0 := I8.out.c k (strC_at hlw)
      obtain ⟨s, hs⟩ : ∃ s, ws[k] = s := ⟨_, rfl⟩
      rw [hs] at w0
      have hwd : PTree.Wd s := HWS.out s (by rw [← hs]; exact List.getElem_mem hlw)
      have hdr : ws.drop k = s :: ws.drop (k + 1) := by rw [List.drop_eq_getElem_cons hlw, hs]
      have J1 := I1.out
      rw [hdr] at J1
      simp only [partsA] at J1
      have hsz := I8.out.1
      have HWD := Lib.hid hwd
      by_cases hx : tx c.ls j' = s
      · have HTK := Lib.hid (take_yes (u := ⟨s.toArray⟩) I0.out hwd.ne hx)
        have hjl := PTree.tx_pos (by rw [hx]; exact hwd.ne)
        rw [PTree.must_yes HT.out hwd hx] at J1
        replace J1 : R.next (PTree.ex c.en .whole (d + 1) (c.ls.drop (j' + 1))) (fun t2 a => partsA c.en d (ws.drop (k + 1)) (acc ++ [a]) t2) = F := J1
        rw [← DD.out] at J1
        replace J1 := Lib.hid J1
        have HJL := Lib.hid hjl
        clear hwd hdr hs hx I1 hjl hlw
        unfold Rc.p at HTK
        go_wp2_with fail
        refine HTK.out.mono ?_
        rintro _ w2 ⟨rfl, R2, b2, k2⟩
        have HE := IE.out D (j' + 1) (xs ++ flatL acc xs.length) w2 (by have := HN.out; have := I10.out; have := HJL.out; omega) (by have := DD.out; have := HD.out; omega) R2 (by rw [List.length_append, PTree.flatL_len]; have := HB.out; have := I10.out; have := HJL.out; omega)
        unfold Rc.p at HE
        replace HE := Lib.hid HE
        have I2b := Lib.hid (I2.out.trans k2); have I3b := Lib.hid (I3.out.trans b2)
        have I4b := Lib.hid (I4.out.kp I5.out k2); have I5b := Lib.hid (k2 _ I5.out).1
        have I6b := Lib.hid (I6.out.kp I7.out k2); have I7b := Lib.hid (k2 _ I7.out).1
        have I8b := Lib.hid (I8.out.kp I9.out k2); have I9b := Lib.hid (k2 _ I9.out).1
        clear HTK R2 b2 k2 I0 I2 I3 I4 I5 I6 I7 I8 I9 w0 hsz
        go_wp2_with fail
        refine HE.out.mono ?_
        rintro _ w3 ⟨a, er, rfl, st, b3, k3⟩
        have I2 := Lib.hid (I2b.out.trans k3); have I3 := Lib.hid (I3b.out.trans b3)
        have I4 := Lib.hid (I4b.out.kp I5b.out k3); have I5 := Lib.hid (k3 _ I5b.out).1
        have I6 := Lib.hid (I6b.out.kp I7b.out k3); have I7 := Lib.hid (k3 _ I7b.out).1
        have I8 := Lib.hid (I8b.out.kp I9b.out k3); have I9 := Lib.hid (k3 _ I9b.out).1
        clear HE b3 k3 I2b I3b I4b I5b I6b I7b I8b I9b
        rcases st.split with ⟨he, _⟩ | ⟨rfl, j3, t, hr, R3, rfl⟩
        · obtain ⟨j3, ys, e, q, R3, g1, g2, g3, g4⟩ := rst_fwd st he (fun t2 a => partsA c.en d (ws.drop (k + 1)) (acc ++ [a]) t2)
          rw [J1.out] at g1
          have e1 : (er != 0) = true := by rw [bne_iff_ne]; exact he
          have FIN := Lib.hid (And.intro R3 (And.intro g2 (And.intro g3 g4)))
          have HG := Lib.hid g1
          clear st he R3 g1 g2 g3 g4 J1 I4 I5 I6 I7 I8 I9 I10
          go_wp2_with fail
          rw [← HQ.out, HF.out]
          rw [HG.out]
          exact ⟨_, _, j3, ys, rfl, I3.out, I2.out, FIN.out⟩
        · have hfew := PTree.ex_few c.en .whole D (c.ls.drop (j' + 1)) _ _ hr
          have J2 := J1.out
          rw [hr] at J2
          replace J2 : partsA c.en d (ws.drop (k + 1)) (acc ++ [t]) (c.ls.drop j3) = F := J2
          replace J2 := Lib.hid J2
          have R3e : xs ++ flatL (acc ++ [t]) xs.length = xs ++ flatL acc xs.length ++ t.flat (xs ++ flatL acc xs.length).length := by
            rw [PTree.flatL_snoc, List.length_append, PTree.flatL_len, List.append_assoc]
          rw [← R3e] at R3
          have hav : (xs ++ flatL acc xs.length).length + t.size - 1 = xs.length + sizeL acc + t.size - 1 := by rw [List.length_append, PTree.flatL_len]
          have I10n : Hid (sizeL (acc ++ [t]) + (c.ls.length - j3) ≤ c.ls.length - j ∧ j ≤ j3) := Lib.hid (by
            have h3 := R3.le
            have := I10.out; have := HJL.out
            simp only [Md.sz, List.length_drop, Nat.zero_add] at hfew
            rw [PTree.sizeL_snoc]
            omega)
          rw [hav]
          obtain ⟨A, hA⟩ : ∃ A : Int, ((xs.length + sizeL acc + t.size - 1 : Nat) : Int) = A := ⟨_, rfl⟩
          rw [hA]
          have hk3 : (k : Int) < 3 := by omega
          have hk0 : (0 : Int) ≤ (k : Int) := by omega
          obtain ⟨v, hv⟩ : ∃ v, ([.int .i64 (pos3 acc xs.length 0 : Nat), .int .i64 (pos3 acc xs.length 1 : Nat), .int .i64 (pos3 acc xs.length 2 : Nat)] : List Value)[k]? = some v := by
            have : k = 0 ∨ k = 1 ∨ k = 2 := by omega
            rcases this with rfl | rfl | rfl <;> exact ⟨_, rfl⟩
          have p0 := I4.out.c k hv
          have f0 := I4.out.f k hv
          have hps := I4.out.1
          have hb4 := I4.out.set k (by simp; omega) (.int .i64 A)
          rw [← hA, pos3_set HA.out (by omega), hA] at hb4
          have NX : Hid (∀ w4, w4 = w3.setCell ⟨L + 1, k, none⟩ (.int .i64 A) → Rd c w4 j3 (xs ++ flatL (acc ++ [t]) xs.length) ∧ Kp c w w4 ∧ Below c.H w w4 ∧ Box w4 (L + 1) [.int .i64 (pos3 (acc ++ [t]) xs.length 0 : Nat), .int .i64 (pos3 (acc ++ [t]) xs.length 1 : Nat), .int .i64 (pos3 (acc ++ [t]) xs.length 2 : Nat)] ∧ Fr c w4 (L + 1) ∧ Box w4 L (zeroU ⟨u.toArray⟩) ∧ Fr c w4 L ∧ Box w4 W (strC ws) ∧ Fr c w4 W) := Lib.hid (by
            rintro _ rfl
            have hlh := HLH.out
            have hlw := HR2.out
            have hl := HL.out
            exact ⟨R3.set I5.out (by omega), I2.out.set (by omega) hlh.2.1, I3.out.setCell (by show c.H ≤ L + 1; omega) _, hb4, I5.out.set hlh.2.1, I6.out.far (by show L + 1 ≠ L; omega) _, I7.out.set hlh.2.1, I8.out.far (fun e => hlh.2.2.2 e.symm) _, I9.out.set hlh.2.1⟩)
          have HAN : Hid ((acc ++ [t]).length = k + 1) := Lib.hid (by rw [List.length_append, HA.out]; rfl)
          clear st hr hfew J1 R3e R3 hav hA hv hb4 I2 I3 I4 I5 I6 I7 I8 I9 I10
          go_wp2_with fail
          obtain ⟨n1, n2, n3, n4, n5, n6, n7, n8, n9⟩ := NX.out _ rfl
          refine ⟨⟨k + 1, acc ++ [t], j3, by omega, rfl, HAN, n1, J2, n2, n3, n4, n5, n6, n7, n8, n9, I10n⟩, by simp [intOf]; omega⟩
      · have HTK := Lib.hid (take_no (u := ⟨s.toArray⟩) I0.out hx)
        rw [PTree.must_no HT.out hwd hx] at J1
        have HG : Hid (F = some (.bad 2 (pl c.en c.ls j'))) := Lib.hid J1.symm
        clear hwd hdr hs hx I1 hlw J1 I4 I5 I6 I7 I9 I10
        unfold Rc.p at HTK
        go_wp2_with fail
        refine HTK.out.mono ?_
        rintro _ _ ⟨rfl, rfl⟩
        clear HTK
        go_wp2_with fail
        rw [← HQ.out, HF.out, HG.out]
        exact ⟨_, _, j', _, rfl, I3.out, I2.out, I0.out, rfl, by decide, rfl⟩
    · obtain rfl : k = m := by omega
      have J1 := I1.out
      rw [List.drop_of_length_le (by rw [HMM.out]; exact Nat.le_refl _)] at J1
      replace J1 : some (R.ok (c.ls.drop j') acc) = F := J1
      have HG := Lib.hid J1.symm
      clear I1 J1
      obtain ⟨q0, q1, q2⟩ : wr.cell? ⟨L + 1, 0, none⟩ = some (.int .i64 (pos3 acc xs.length 0 : Nat)) ∧ wr.cell? ⟨L + 1, 1, none⟩ = some (.int .i64 (pos3 acc xs.length 1 : Nat)) ∧ wr.cell? ⟨L + 1, 2, none⟩ = some (.int .i64 (pos3 acc xs.length 2 : Nat)) := ⟨I4.out.c 0 rfl, I4.out.c 1 rfl, I4.out.c 2 rfl⟩
      have XB := I6.out
      have hfl : (zeroU ⟨u.toArray⟩)[3]? = some (.int .i64 0) ∧ (zeroU ⟨u.toArray⟩)[4]? = some (.int .i64 0) ∧ (zeroU ⟨u.toArray⟩)[5]? = some (.int .i64 0) := ⟨rfl, rfl, rfl⟩
      unfold zeroU at XB
      obtain ⟨e0, e1, e2, e3, e4, e5⟩ := box6 XB
      obtain ⟨f0, f1, f2, f3, f4, f5⟩ := box6f XB
      have hsx := XB.1
      obtain ⟨y, hy⟩ : ∃ y : Ex, y = ⟨u, [], 0, pos3 acc xs.length 0, pos3 acc xs.length 1, pos3 acc xs.length 2⟩ := ⟨_, rfl⟩
      have NX : Hid (∀ w4, w4 = (((wr.setCell ⟨L, 3, none⟩ (.int .i64 (pos3 acc xs.length 0 : Nat))).setCell ⟨L, 4, none⟩ (.int .i64 (pos3 acc xs.length 1 : Nat))).setCell ⟨L, 5, none⟩ (.int .i64 (pos3 acc xs.length 2 : Nat))).drew → Rd c w4 j' (xs ++ flatL acc xs.length) ∧ Kp c w w4 ∧ Below c.H w w4 ∧ Box w4 L (exC y)) := Lib.hid (by
        rintro _ rfl
        have hlh := HLH.out
        have hr2 := HR2.out
        have hl := HL.out
        have g1 := I0.out.set (o := 3) (v := .int .i64 (pos3 acc xs.length 0 : Nat)) I7.out (by omega)
        have g2 := g1.set (o := 4) (v := .int .i64 (pos3 acc xs.length 1 : Nat)) (I7.out.set hlh.1) (by omega)
        have g3 := g2.set (o := 5) (v := .int .i64 (pos3 acc xs.length 2 : Nat)) ((I7.out.set hlh.1).set hlh.1) (by omega)
        have b3 := ((XB.set 3 (by simp) (.int .i64 (pos3 acc xs.length 0 : Nat))).set 4 (by simp) (.int .i64 (pos3 acc xs.length 1 : Nat))).set 5 (by simp) (.int .i64 (pos3 acc xs.length 2 : Nat))
        have k3 : Kp c w (((wr.setCell ⟨L, 3, none⟩ (.int .i64 (pos3 acc xs.length 0 : Nat))).setCell ⟨L, 4, none⟩ (.int .i64 (pos3 acc xs.length 1 : Nat))).setCell ⟨L, 5, none⟩ (.int .i64 (pos3 acc xs.length 2 : Nat))) := ((I2.out.set (by omega) hlh.1).set (by omega) hlh.1).set (by omega) hlh.1
        have l3 : Below c.H w (((wr.setCell ⟨L, 3, none⟩ (.int .i64 (pos3 acc xs.length 0 : Nat))).setCell ⟨L, 4, none⟩ (.int .i64 (pos3 acc xs.length 1 : Nat))).setCell ⟨L, 5, none⟩ (.int .i64 (pos3 acc xs.length 2 : Nat))) := ((I3.out.setCell (by show c.H ≤ L; omega) _).setCell (by show c.H ≤ L; omega) _).setCell (by show c.H ≤ L; omega) _
        refine ⟨g3, k3, l3.drew, ?_⟩
        rw [hy]; exact b3)
      have HLE : Hid (xs.length + sizeL acc ≤ 5000) := Lib.hid (by have := I10.out; have := HB.out; omega)
      obtain ⟨x0, hx0⟩ : ∃ x, pos3 acc xs.length 0 = x := ⟨_, rfl⟩
      obtain ⟨x1, hx1⟩ : ∃ x, pos3 acc xs.length 1 = x := ⟨_, rfl⟩
      obtain ⟨x2, hx2⟩ : ∃ x, pos3 acc xs.length 2 = x := ⟨_, rfl⟩
      rw [hx0, hx1, hx2] at NX; rw [hx0] at q0; rw [hx1] at q1; rw [hx2] at q2
      have HX0 := Lib.hid hx0; have HX1 := Lib.hid hx1; have HX2 := Lib.hid hx2; have HY := Lib.hid hy
      clear I0 I2 I3 I4 I5 I6 I7 I8 I9 I10 XB hfl hx0 hx1 hx2 hy
      go_wp2_with fail
      go_region
      obtain ⟨w4, hw4⟩ : ∃ w4, (((wr.setCell ⟨L, 3, none⟩ (.int .i64 (x0 : Nat))).setCell ⟨L, 4, none⟩ (.int .i64 (x1 : Nat))).setCell ⟨L, 5, none⟩ (.int .i64 (x2 : Nat))).drew = w4 := ⟨_, rfl⟩
      obtain ⟨R4, K4, B4, E4⟩ := NX.out w4 hw4.symm
      have HP := put_any R4 y (by rw [List.length_append, PTree.flatL_len]; have := HLE.out; omega)
      obtain ⟨g0, g1, g2, g3, g4, g5⟩ := box6 E4
      have hs4 := E4.1
      unfold Rc.p exC at HP
      have HP := Lib.hid HP; have K4 := Lib.hid K4; have B4 := Lib.hid B4
      rw [hw4]
      clear hw4 NX q0 q1 q2 e0 e1 e2 e3 e4 e5 f0 f1 f2 f3 f4 f5 hsx R4 E4
      go_wp2_with fail
      refine HP.out.mono ?_
      rintro _ w5 ⟨rfl, R5, b5, k5⟩
      have R5 := Lib.hid R5; have B5 := Lib.hid (B4.out.trans b5); have K5 := Lib.hid (K4.out.trans k5)
      clear HP b5 k5 B4 K4 g0 g1 g2 g3 g4 g5 hs4
      go_wp2_with fail
      rw [← HQ.out, HF.out, HG.out]
      refine ⟨_, _, j', _, rfl, B5.out, K5.out, R5.out, rfl, rfl, ?_, ?_⟩
      · rw [HY.out, HX0.out, HX1.out, HX2.out]
      · rw [PTree.flatL_len]; omega
end Go.Proofs.YtkmehhhgdeiaeaaDoor
