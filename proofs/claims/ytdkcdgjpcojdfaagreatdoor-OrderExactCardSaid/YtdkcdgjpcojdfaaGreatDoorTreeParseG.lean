/-
  What the landed tree.Parse answers: the program of a text, or an error and its place.
-/
import Derived.Test.YtdkcdgjpcojdfaaGreatDoorTR
import Derived.Test.YtdkcdgjpcojdfaaGreatDoorLA

namespace PTree
open PLex (Tok)
theorem toldR_one {ls : List Tok} (ht : Toks ls) {en j : Nat} {r : Option (R (List Rl))} {rs0 : List Rl} (h : toldR en r rs0 (ls.drop j)) (hj : j < ls.length) {ts : List Tok} {x : Rl} (h1 : rule1 en rs0.length ls j = some (.ok ts x)) : toldR en r (rs0 ++ [x]) ts := by
  unfold toldR at h ⊢
  rw [h, rules_step ht hj, h1, next_one, List.length_append, List.length_singleton, next_assoc']
  congr 1
  funext t rs
  simp [next_one]
theorem toldR_err {ls : List Tok} (ht : Toks ls) {en j e q : Nat} {r : Option (R (List Rl))} {rs0 : List Rl} (h : toldR en r rs0 (ls.drop j)) (hj : j < ls.length) (h1 : rule1 en rs0.length ls j = some (.bad e q)) : r = some (.bad e q) := by
  unfold toldR at h
  rw [h, rules_step ht hj, h1]; rfl
theorem rule1_few {en cnt j : Nat} {ls : List Tok} {ts : List Tok} {x : Rl} (h : rule1 en cnt ls j = some (.ok ts x)) : x.tree.size + ts.length ≤ ls.length - (j + 2) ∧ cnt ≤ 59 ∧ j < ls.length := by
  unfold rule1 at h
  by_cases h1 : tx ls j ∉ kinds
  · rw [if_pos h1] at h; cases h
  rw [if_neg h1] at h
  by_cases h2 : 59 < cnt
  · rw [if_pos h2] at h; cases h
  rw [if_neg h2] at h
  by_cases h3 : kd ls (j + 1) ≠ 1 ∨ tx ls (j + 1) ∈ takenL
  · rw [if_pos h3] at h; cases h
  rw [if_neg h3] at h
  obtain ⟨t1, _, e1, e2⟩ := next_ok' h
  obtain ⟨t2, y, e3, e4⟩ := next_ok' e2
  obtain ⟨t3, _, e5, e6⟩ := next_ok' e4
  cases e6
  have g1 := must_few (en := en) (s := [61]) (List.cons_ne_nil _ _) (ls.drop (j + 2)) _ _ e1
  have g2 := ex_few en .whole 1 t1 _ _ e3
  have g3 := must_few (en := en) (s := [59]) (List.cons_ne_nil _ _) t2 _ _ e5
  have hk := tx_pos (kinds_wd (Classical.not_not.1 h1)).ne
  simp only [Md.sz, List.length_drop] at g1 g2 g3 ⊢
  exact ⟨by omega, by omega, hk⟩
theorem mem_le_sum {l : List Nat} {n : Nat} (h : n ∈ l) : n ≤ l.sum := by
  induction l with
  | nil => cases h
  | cons a l ih =>
    rw [List.sum_cons]
    rcases List.mem_cons.1 h with rfl | h
    · omega
    · have := ih h; omega
theorem toks_of {l : List UInt8} {ts : List Tok} (hq : PLex.all PLex.kindOf 0 l = (none, ts)) (hs : l.length ≤ 4000) : Toks ts ∧ ts.length ≤ 4000 := by
  have hl := PLex.all_lone (K := PLex.kindOf) l.length 0 l (Nat.le_refl _)
  have hn := PLex.all_sum (K := PLex.kindOf) l.length 0 l (Nat.le_refl _)
  rw [hq] at hl hn
  have hn' : (ts.map (fun x => x.text.length)).sum ≤ l.length := hn
  have h2 : ts.length ≤ (ts.map (fun x => x.text.length)).sum := PLex.sum_len (fun x hx => (hl x hx).ne)
  exact ⟨fun x hx => ⟨hl x hx, by have := mem_le_sum (List.mem_map.2 ⟨x, hx, rfl⟩ : x.text.length ∈ ts.map (fun x => x.text.length)); omega⟩, by omega⟩
end PTree
namespace Go.Proofs.YtdkcdgjpcojdfaaGreatDoor
open Go.RowKit
open PTree (R Ex Tr Md Rl Row tx kd pl rule1)
variable {c : Rc} {w w' : World} {j : Nat} {xs : List Ex}

theorem tree_ruleTy : RecTy rowR 60 29 40 where
  info := ⟨.agg #[.string ⟨#[]⟩, .string ⟨#[]⟩, .int .i64 0], by kernel_rfl, by rfl⟩
  under := by kernel_rfl
  few := by decide
theorem append_rec_far {α : Type} {R : Rec α} {e t : TypeId} {bytes : Nat} (T : RecTy R e t bytes) {w : World} {ops : Array Oper} {rest : List Oper} {o : Oper} {a : Act} {Q : Exit → Act → World → Prop} (hgd : o.guard = none) (s x : Operand)
    (ho : o.op = .call { callee := .builtin .append, args := #[s, x], argTypes := #[t, t] })
    (base : Nat) (v : Value) (l : List α) (y : α) (hs : a.eval s = v) (hown : w.ownsRow base e R.k v l.length (R.cells l))
    (hx : a.eval x = .slice (some ⟨w.heap.size, 0, none⟩) 1 1) (hn : l.length + 1 ≤ 100000) (hbase : base ≤ w.heap.size)
    (h : ∀ v' w', w'.ownsRow base e R.k v' (l.length + 1) (R.cells (l ++ [y])) → (w.alloc (.cells (R.C y).toArray e)).grownBy w' v.ownBlock → (v'.ownBlock = v.ownBlock ∨ v'.ownBlock = some (w.heap.size + 1)) → wpList Tryz.prog ops Q rest (a.put o.dst v') w') :
    wpList Tryz.prog ops Q (o :: rest) a (w.alloc (.cells (R.C y).toArray e)) := by
  obtain ⟨z, hz, hzs⟩ := T.info
  obtain ⟨i0, hi, hz0, hz1, hz2⟩ := info_parts hz
  refine wpList_append_own_at _ hgd s x t ho base e i0 z R.k bytes T.under hi hz0 hz1 hz2 hzs R.pos v l.length _ hs (hown.alloc _) ⟨w.heap.size, 0, none⟩ 1 1 (R.C y) hx (by rw [R.len, Nat.one_mul]) (fun j u hj => ?_) (R.one y) (by unfold maxLen; omega) ?_ (by simp; omega) (fun v' w' ho' hg _ hat => h v' w' ?_ hg (by simpa using hat))
  · rw [addr_add, World.cell?_alloc_at _ _ _ _ rfl]; simpa using hj
  · have := Nat.mul_le_mul hn T.few; omega
  · rw [R.cells_append, R.cells_one]; exact ho'
theorem Rd.grown {row : Option Nat} (h : Rd c w j xs) (hg : w.grownBy w' row) (hf : ∀ g, row = some g → Fr c w g ∧ c.H < g) : Rd c w' j xs ∧ (∀ b, Fr c w b → Fr c w' b) ∧ Below c.H w w' := by
  obtain ⟨h1, h2, h3, h4, h7, V, h5, h6⟩ := h
  have hB : Below c.H w w' := (Below.refl c.H w).grown hg (Nat.le_of_lt h5.1) (fun g e => Nat.le_of_lt (hf g e).2)
  have hne : some c.H ≠ row := fun e => by have := (hf _ e.symm).2; omega
  have hbx : Box w' c.H [.slice (some ⟨c.b, c.off + j * 3, none⟩) (c.ls.length + 1 - j) (c.cap - j), V] :=
    ⟨Nat.lt_of_lt_of_le h5.1 hg.size, fun k v e => ⟨(hg.cell_far ⟨c.H, k, none⟩ h5.1 hne).trans (h5.2.1 k v e).1, (hg.frozen_far ⟨c.H, k, none⟩ h5.1 hne).trans (h5.2.1 k v e).2⟩, fun k e => (hg.cell_far ⟨c.H, k, none⟩ h5.1 hne).trans (h5.2.2 k e)⟩
  refine ⟨⟨h1, h2.keep hB h1, h3, h4, h7, V, hbx, h6.kept hg ?_⟩, fun b hb => ⟨Nat.lt_of_lt_of_le hb.1 hg.size, hb.2.1, fun V' e => hb.2.2 V' ?_⟩, hB⟩
  · cases hv : V.ownBlock with
    | none => exact .inl rfl
    | some g => exact .inr (fun e => (hf g e.symm).1.2.2 V (h5.c 1 rfl) hv)
  · rw [← hg.cell_far ⟨c.H, 1, none⟩ h5.1 hne]; exact e
theorem rule_any {cnt : Nat} (ht : PTree.Toks c.ls) (h : Rd c w j xs) (hc2 : cnt ≤ 100000) (hB : xs.length + (c.ls.length - j) ≤ 5000) :
    Calls Tryz.prog 29 #[c.p, .int .i64 cnt] w (UAns c xs (rule1 c.en cnt c.ls j) w) := by
  by_cases hk : tx c.ls j ∈ PTree.kinds
  · by_cases hc : 59 < cnt
    · exact rule_many h hk hc hc2
    · exact rule_rest ht h hk (by omega) hB
  · exact rule_kind h hk
def TreeAns (r : Option (R (List Rl))) (w : World) (e : Ending) (w' : World) : Prop :=
  Below w.heap.size w w' ∧ match r with
  | none => False
  | some (.bad k q) => e = .returned (.tuple #[.agg #[.slice none 0 0, .slice none 0 0], .int .i64 (q : Nat), .int .i64 (k : Nat)]) ∧ k ≠ 0
  | some (.ok _ rs) => ∃ A ca B cb, e = .returned (.tuple #[.agg #[.slice A rs.length ca, .slice B (PTree.sizeOf rs) cb], .int .i64 0, .int .i64 0]) ∧ (A = none → ca = 0) ∧ ((B = none → cb = 0) ∧ rs.length ≤ ca ∧ PTree.sizeOf rs ≤ cb) ∧ SlX rowR w' A rs.length (PTree.rowsOf 0 rs) ∧ SlX exR w' B (PTree.sizeOf rs) (PTree.exprsOf 0 rs)
theorem store2 {H : Nat} {a b : Value} (h : Box w H [a, b]) (a' b' : Value) : ∃ w', (w.setCell ⟨H, 0, none⟩ a').setCell ⟨H, 1, none⟩ b' = w' ∧ Box w' H [a', b'] ∧ Only H w w' :=
  ⟨_, rfl, (h.set 0 (by simp) a').set 1 (by simp) b', ((Only.refl H w).set 0 a').set 1 b'⟩
set_option maxRecDepth 100000 in
set_option maxHeartbeats 6400000 in
theorem parse_lex {s : ByteArray} {q : Nat} (w : World) (hs : s.size ≤ 99999) (hq : (PLex.all PLex.kindOf 0 s.data.toList).1 = some q) :
    Calls Tryz.prog 10 #[.string s] w (TreeAns (PTree.parse s.data.toList) w) := by
  have hp : PTree.parse s.data.toList = some (.bad 2 q) := by
    unfold PTree.parse
    obtain ⟨r, hr⟩ : ∃ r, PLex.all PLex.kindOf 0 s.data.toList = r := ⟨_, rfl⟩
    rw [hr] at hq ⊢
    obtain ⟨a, b⟩ := r
    simp only [] at hq
    subst hq; rfl
  rw [hp]
  have HL := Lib.hid (fun w => (lall_any s w hs).mono fun _ _ k => k.bad hq)
  obtain ⟨w1, hw1, PB, b1⟩ : ∃ w1, w.alloc (.cells #[.slice none 0 0, .slice none 0 0] 32) = w1 ∧ Box w1 w.heap.size [.slice none 0 0, .slice none 0 0] ∧ Below w.heap.size w w1 := ⟨_, rfl, Box.new _ _ [.slice none 0 0, .slice none 0 0], (Below.refl _ _).alloc (Nat.le_refl _) _⟩
  have PB := Lib.hid PB; have B1 := Lib.hid b1
  clear hp hq b1 hs
  go_enter Tryz.func10, Tryz.ntmps10
  go_wp2_with fail
  (try rw [hw1])
  refine (HL.out _).mono ?_
  rintro _ w2 ⟨A, cap, rfl, b2⟩
  have P2 := PB.out.on b2
  obtain ⟨wz, hwz, PZ, ON⟩ := store2 P2 (.slice none 0 0) (.slice none 0 0)
  obtain ⟨c0, c1⟩ := box2 P2
  obtain ⟨f0, f1⟩ := box2f P2
  obtain ⟨q0, q1⟩ := box2 PZ
  rw [← hwz] at q0 q1
  have hsz := P2.1
  have HWZ := Lib.hid hwz
  have BZ := Lib.hid (ON.below (Nat.le_refl _) (below_step B1.out b2))
  clear hw1 P2 PZ ON hwz b2 HL PB B1
  go_wp2_with fail
  (try simp only [Exit.inBlock, Exit.then])
  refine bodyPost_ret (by simp [results, Tryz.results10, go_sem, q0, q1]; try rfl) rfl ?_
  rw [HWZ.out]
  exact ⟨BZ.out, rfl, by decide⟩
set_option maxRecDepth 100000 in
set_option maxHeartbeats 6400000 in
theorem parse_toks {s : ByteArray} {ts : List PLex.Tok} (w : World) (hs : s.size ≤ 4000) (hq : PLex.all PLex.kindOf 0 s.data.toList = (none, ts)) :
    Calls Tryz.prog 10 #[.string s] w (TreeAns (PTree.parse s.data.toList) w) := by
  have hp : PTree.parse s.data.toList = PTree.rules s.size 0 ts := by
    unfold PTree.parse; rw [hq]
    simp only [ByteArray.size, Array.length_toList]
  rw [hp]
  obtain ⟨F, hF⟩ : ∃ F, PTree.rules s.size 0 ts = F := ⟨_, rfl⟩
  rw [hF]
  obtain ⟨hTk, hts⟩ := PTree.toks_of hq (by simpa using hs)
  have HL := Lib.hid (fun w => (lall_any s w (by omega)).mono fun _ _ k => by rw [hq] at k; exact k.own rfl)
  obtain ⟨Q, hQ⟩ : ∃ Q, TreeAns F w = Q := ⟨_, rfl⟩
  rw [hQ]
  have HQ := Lib.hid hQ; have HF := Lib.hid hF; have HT := Lib.hid hTk
  obtain ⟨w1, hw1, PB, b1⟩ : ∃ w1, w.alloc (.cells #[.slice none 0 0, .slice none 0 0] 32) = w1 ∧ Box w1 w.heap.size [.slice none 0 0, .slice none 0 0] ∧ Below w.heap.size w w1 := ⟨_, rfl, Box.new _ _ [.slice none 0 0, .slice none 0 0], (Below.refl _ _).alloc (Nat.le_refl _) _⟩
  have PB := Lib.hid PB; have B1 := Lib.hid b1
  have gs : (s.size : Int) ≤ 4000 := by omega
  clear hp b1 hs hq hTk hQ hF
  go_enter Tryz.func10, Tryz.ntmps10
  go_wp2_with fail
  (try rw [hw1])
  refine (HL.out _).mono ?_
  rintro _ w2 ⟨A, cap, rfl, own2, b2⟩
  have P2 := Lib.hid (PB.out.on b2)
  have B2 := Lib.hid (below_step B1.out b2)
  have O2 := Lib.hid own2
  have hbb := b2.size
  have HP1 := Lib.hid PB.out.1
  clear hw1 own2 b2 HL PB B1
  go_wp2_with (at_builtin; refine append_tok lex_tokTy rfl _ _ rfl w1.heap.size _ ts 0 ⟨#[]⟩ s.size (by rfl) O2.out (by rfl) (by omega) hbb ?_)
  intro v' w3 hown hb3
  obtain ⟨A3, cap3, rfl, hA3, hcap, sl3⟩ := slt_of_own hown (by simp)
  obtain ⟨b, off, rfl, hc⟩ := sl3.at (i := 0) (by omega)
  have B3 := Lib.hid (B2.out.trans (hb3.mono (Nat.le_of_lt HP1.out)))
  have P3 := Lib.hid (P2.out.keep hb3 HP1.out)
  have hc0 := hc 0 (by simp)
  have hbl := World.block_lt_of_cell? w3 _ hc0.1
  obtain ⟨w4, hw4, RB, b4⟩ : ∃ w4, w3.alloc (.cells #[.slice (some ⟨b, off, none⟩) (ts.length + 1) cap3, .slice none 0 0] 84) = w4 ∧ Box w4 w3.heap.size [.slice (some ⟨b, off, none⟩) (ts.length + 1) cap3, .slice none 0 0] ∧ Below w3.heap.size w3 w4 := ⟨_, rfl, Box.new _ _ [.slice (some ⟨b, off, none⟩) (ts.length + 1) cap3, .slice none 0 0], (Below.refl _ _).alloc (Nat.le_refl _) _⟩
  obtain ⟨c, hcdef⟩ : ∃ c : Rc, c = ⟨b, off, cap3, ts, s.size, w3.heap.size⟩ := ⟨_, rfl⟩
  have R4 : Rd c w4 0 (PTree.exprsOf 0 []) := by
    subst hcdef
    refine ⟨hbl, fun i hi => ?_, Nat.zero_le _, hts, hcap, .slice none 0 0, ?_, ?_⟩
    · have hi' : i < (ts ++ [(⟨0, [], s.size⟩ : PLex.Tok)]).length := by rw [List.length_append]; exact Nat.lt_succ_of_le hi
      have h3 := hc i hi'
      have hk : ∀ q, w4.cell? ⟨b, q, none⟩ = w3.cell? ⟨b, q, none⟩ := fun q => b4.cell (p := ⟨b, q, none⟩) hbl
      show w4.cell? ⟨b, _, none⟩ = _ ∧ w4.cell? ⟨b, _, none⟩ = _ ∧ w4.cell? ⟨b, _, none⟩ = _
      rw [hk, hk, hk]
      have e : (ts ++ [(⟨0, [], s.size⟩ : PLex.Tok)])[i] = ⟨kd ts i, tx ts i, pl s.size ts i⟩ := by
        by_cases hit : i < ts.length
        · rw [List.getElem_append_left hit]
          unfold PTree.kd PTree.tx PTree.pl
          rw [List.getElem?_eq_getElem hit]
        · have : i = ts.length := by have hi2 : i ≤ ts.length := hi; omega
          subst this
          unfold PTree.kd PTree.tx PTree.pl
          rw [List.getElem?_eq_none (Nat.le_refl _)]; simp
      rw [e] at h3; exact h3
    · show Box w4 w3.heap.size [.slice (some ⟨b, off + 0 * 3, none⟩) (ts.length + 1 - 0) (cap3 - 0), .slice none 0 0]
      simpa using RB
    · exact World.ownsRow_nil _ _ _ _
  have H1 : Hid (c.ls = ts ∧ c.en = s.size ∧ c.H = w3.heap.size) := Lib.hid (by subst hcdef; exact ⟨rfl, rfl, rfl⟩)
  have TD : Hid (PTree.toldR s.size F [] (c.ls.drop 0)) := Lib.hid (by rw [H1.out.1, List.drop_zero, ← HF.out]; exact PTree.toldR_first _ _)
  have HTK : Hid (PTree.Toks c.ls) := Lib.hid (by rw [H1.out.1]; exact HT.out)
  have B4 := Lib.hid (B3.out.trans (b4.mono (by have := P3.out.1; omega)))
  have P4 := Lib.hid (P3.out.on b4)
  have HLS : Hid (w.heap.size < c.H ∧ c.ls.length ≤ 4000 ∧ w.heap.size < c.b) := Lib.hid ⟨by rw [H1.out.2.2]; exact P3.out.1, by rw [H1.out.1]; exact hts, by
    have h1 := own_from hown _ rfl
    have h2 := HP1.out
    rw [hcdef]
    exact Nat.lt_of_lt_of_le h2 h1⟩
  have R4 := Lib.hid R4
  have hH := H1.out.2.2
  have OW : Hid (w4.ownsRow (c.H + 1) 60 3 (.slice none 0 0) 0 (rowR.cells (PTree.rowsOf 0 []))) := Lib.hid (World.ownsRow_nil _ _ _ _)
  have FW : Hid (∀ g, (Value.slice none 0 0).ownBlock = some g → Fr c w4 g) := Lib.hid (fun g e => by cases e)
  clear hown hb3 hA3 hcap sl3 hc hc0 hbl RB b4 hcdef O2 B2 P2 B3 P3 HP1 hbb
  have HW4 := Lib.hid hw4
  clear hw4
  go_upto_region 5 with fail
  rw [HW4.out]
  rw [← hH]
  have HE := Lib.hid H1.out.2.1
  clear HW4 hH H1 w3
  go_wp2_with fail
  go_loopw [9] (fun v wr => ∃ (rs0 : List Rl) (j : Nat), Hid (Rd c wr j (PTree.exprsOf 0 rs0)) ∧ Hid (wr.ownsRow (c.H + 1) 60 3 v rs0.length (rowR.cells (PTree.rowsOf 0 rs0))) ∧ Hid (∀ g, v.ownBlock = some g → Fr c wr g) ∧ Hid (PTree.toldR s.size F rs0 (c.ls.drop j)) ∧ Hid (Below w.heap.size w wr) ∧ Hid (Box wr w.heap.size [.slice none 0 0, .slice none 0 0]) ∧ Hid (rs0.length ≤ 60 ∧ PTree.sizeOf rs0 + (c.ls.length - j) ≤ c.ls.length)) (fun _ wr => leftN c.H wr)
  case atStart => exact ⟨[], 0, R4, OW, FW, TD, B4, P4, (show Hid _ from ⟨by decide, by simp [PTree.sizeOf]⟩)⟩
  case round =>
    clear R4 OW FW TD B4 P4
    obtain ⟨rs0, j, I0, I1, I2, I3, I4, I5, I6⟩ := hrel
    obtain ⟨o, n, cp, V, _, en, _, hn0, _, hb, t0, t1, t2⟩ := I0.out.see
    obtain ⟨c0, c1⟩ := box2 hb
    have hsz := hb.1
    by_cases hlt : j < c.ls.length
    · have gn : (1 : Int) < (n : Int) := by omega
      obtain ⟨VA, vc, rfl, hva⟩ := own_slice I1.out
      have hUA := rule_any (cnt := rs0.length) HTK.out I0.out (by have := I6.out.1; omega) (by rw [PTree.exprsOf_len]; have := I6.out.2; have := HLS.out.2.1; omega)
      rw [HE.out] at hUA
      unfold Rc.p at hUA
      have HU := Lib.hid hUA
      have HJ := Lib.hid hlt
      have HM := Lib.hid (leftN_rd I0.out)
      clear hb t0 t1 t2 hlt en hUA
      go_wp2_with fail
      refine HU.out.mono ?_
      rintro _ w5 ⟨y, er, j5, ys, rfl, b5, k5, R5, hm⟩
      have O5 := Lib.hid (own_kp I1.out I2.out k5)
      have F5 := Lib.hid (fun g e => (k5 g (I2.out g e)).1)
      have B5 := Lib.hid (I4.out.trans (b5.mono (Nat.le_of_lt HLS.out.1)))
      have P5 := Lib.hid (I5.out.keep b5 HLS.out.1)
      clear HU b5 k5 I0 I1 I2 I4 I5 c0 c1 hsz
      obtain ⟨r1, hr1⟩ : ∃ r, rule1 s.size rs0.length c.ls j = r := ⟨_, rfl⟩
      rw [hr1] at hm
      cases r1 with
      | none => exact hm.elim
      | some r1 =>
        cases r1 with
        | bad e q =>
          obtain ⟨rfl, he, hpl⟩ := hm
          have HG := Lib.hid (PTree.toldR_err HTK.out I3.out HJ.out hr1)
          have HE0 := Lib.hid he
          obtain ⟨w6, hw6, b6⟩ : ∃ w6, w5.alloc (.cells (rowC y).toArray 60) = w6 ∧ Below w5.heap.size w5 w6 := ⟨_, rfl, (Below.refl _ _).alloc (Nat.le_refl _) _⟩
          obtain ⟨o, n, cp, V, _, _, _, hn0, _, hb, t0, t1, t2⟩ := (R5.on b6).see
          obtain ⟨c0, c1⟩ := box2 hb
          have hsz := hb.1
          have P6 := P5.out.on b6
          obtain ⟨wz, hwz, PZ, ON⟩ := store2 P6 (.slice none 0 0) (.slice none 0 0)
          have PZ : Box wz.drew w.heap.size [.slice none 0 0, .slice none 0 0] := PZ
          obtain ⟨d0, d1⟩ := box2 P6
          obtain ⟨f0, f1⟩ := box2f P6
          obtain ⟨q0, q1⟩ := box2 PZ
          rw [← hwz] at q0 q1
          have hsp := P6.1
          have HWZ := Lib.hid hwz
          have BZ := Lib.hid ((ON.below (Nat.le_refl _) (B5.out.trans (b6.mono (by have := P5.out.1; omega)))).drew)
          have e1 : ((e : Nat) : Int) ≠ 0 := by omega
          have e2 : (((e : Nat) : Int) != 0) = true := by rw [bne_iff_ne]; exact e1
          obtain ⟨pp, hpp⟩ : ∃ p : Int, ((pl c.en c.ls j5 : Nat) : Int) = p := ⟨_, rfl⟩
          rw [hpp] at t2
          have HPP : Hid (pp = (q : Nat)) := Lib.hid (by rw [← hpp, hpl])
          obtain ⟨ee, hee⟩ : ∃ x : Int, ((e : Nat) : Int) = x := ⟨_, rfl⟩
          rw [hee] at e1 e2 ⊢
          have HEE := Lib.hid hee
          have gH : ¬ w.heap.size = c.H := Nat.ne_of_lt HLS.out.1
          have gb : ¬ w.heap.size = c.b := Nat.ne_of_lt HLS.out.2.2
          have gH' : ¬ c.H = w.heap.size := fun e => gH e.symm
          have gb' : ¬ c.b = w.heap.size := fun e => gb e.symm
          unfold rowC at hw6 ⊢
          clear he hpl hr1 b6 hb P6 PZ ON hwz P5 B5 O5 F5 R5 I3 I6 HJ HM hpp hee e1
          go_upto_region 9 with fail
          (try rw [hw6])
          clear hw6
          go_region
          go_wp2_with fail
          (try simp only [Exit.inBlock, Exit.then])
          refine bodyPost_ret (by simp [results, Tryz.results10, go_sem, q0, q1]; try rfl) rfl ?_
          rw [HWZ.out, ← HQ.out, HG.out, HPP.out, ← HEE.out]
          exact ⟨BZ.out, rfl, HE0.out⟩
        | ok ts' x =>
          obtain ⟨rfl, rfl, rfl, rfl⟩ := hm
          have hfew := PTree.rule1_few hr1
          rw [List.length_drop] at hfew
          have TD := Lib.hid (PTree.toldR_one HTK.out I3.out HJ.out hr1)
          have hj5 := R5.le
          have I6n : Hid ((rs0 ++ [x]).length ≤ 60 ∧ PTree.sizeOf (rs0 ++ [x]) + (c.ls.length - j5) ≤ c.ls.length) := Lib.hid (by
            have := I6.out
            have h1 : PTree.sizeOf (rs0 ++ [x]) = PTree.sizeOf rs0 + x.tree.size := by simp [PTree.sizeOf]
            rw [List.length_append, List.length_singleton, h1]
            omega)
          have hex : PTree.exprsOf 0 rs0 ++ x.tree.flat (PTree.exprsOf 0 rs0).length = PTree.exprsOf 0 (rs0 ++ [x]) := by
            rw [PTree.exprsOf_append, PTree.exprsOf_len]
            simp [PTree.exprsOf]
          rw [hex] at R5
          have hrow : PTree.rowsOf 0 (rs0 ++ [x]) = PTree.rowsOf 0 rs0 ++ [⟨x.kind, x.name, (PTree.exprsOf 0 rs0).length + x.tree.size - 1⟩] := by
            rw [PTree.rowsOf_append, PTree.exprsOf_len]
            simp [PTree.rowsOf]
          obtain ⟨y, hy⟩ : ∃ y : Row, y = ⟨x.kind, x.name, (PTree.exprsOf 0 rs0).length + x.tree.size - 1⟩ := ⟨_, rfl⟩
          rw [← hy] at hrow ⊢
          have MM : Hid (c.ls.length + 1 - j5 < leftN c.H wr) := Lib.hid (by
            rw [HM.out]; have := HJ.out; omega)
          obtain ⟨w6, hw6, XB6, b6⟩ : ∃ w6, w5.alloc (.cells (rowC y).toArray 60) = w6 ∧ Box w6 w5.heap.size (rowC y) ∧ Below w5.heap.size w5 w6 := ⟨_, rfl, Box.new _ _ _, (Below.refl _ _).alloc (Nat.le_refl _) _⟩
          have R6 := R5.on b6
          have k6 := Kp.below R5.lt b6
          have O6 := Lib.hid (own_kp O5.out F5.out k6)
          have F6 := Lib.hid (fun g e => (k6 g (F5.out g e)).1)
          have B6 := Lib.hid (B5.out.trans (b6.mono (by have := P5.out.1; omega)))
          have P6 := Lib.hid (P5.out.on b6)
          obtain ⟨x0, x1, x2⟩ := box3 XB6
          have hxs := XB6.1
          have HROW := Lib.hid hrow
          have R6 := Lib.hid R6; have HY := Lib.hid hy
          have hcl : c.H + 1 ≤ w6.heap.size := R6.out.lt
          have hcn : (PTree.rowsOf 0 rs0).length = rs0.length := PTree.rowsOf_len 0 rs0
          have O6r : Hid (w6.ownsRow (c.H + 1) 60 rowR.k (.slice VA rs0.length vc) (PTree.rowsOf 0 rs0).length (rowR.cells (PTree.rowsOf 0 rs0))) := Lib.hid (by rw [hcn]; exact O6.out)
          have hn6 : (PTree.rowsOf 0 rs0).length + 1 ≤ 100000 := by rw [hcn]; have := I6.out.1; omega
          clear hr1 hfew hj5 hex hrow hy b6 k6 R5 XB6 P5 B5 O5 F5 I3 HM
          unfold rowC at hw6 ⊢
          have HW6 := Lib.hid hw6
          clear hw6
          go_upto_region 8 with fail
          rw [HW6.out]
          clear HW6
          go_wp2_with (at_builtin; refine append_rec_far tree_ruleTy rfl _ _ rfl (c.H + 1) _ (PTree.rowsOf 0 rs0) y (by rfl) O6r.out (by rfl) hn6 hcl ?_)
          intro v' w7 hown7 hg7 hat7
          have FIN : Hid (Rd c w7 j5 (PTree.exprsOf 0 (rs0 ++ [x])) ∧ w7.ownsRow (c.H + 1) 60 3 v' (rs0 ++ [x]).length (rowR.cells (PTree.rowsOf 0 (rs0 ++ [x]))) ∧ (∀ g, v'.ownBlock = some g → Fr c w7 g) ∧ Below w.heap.size w w7 ∧ Box w7 w.heap.size [.slice none 0 0, .slice none 0 0] ∧ leftN c.H w7 < leftN c.H wr) := Lib.hid (by
            have hl := HLS.out.1
            have ba := (Below.refl w6.heap.size w6).alloc (Nat.le_refl _) (.cells (rowR.C y).toArray 60)
            have Ra := R6.out.on ba
            have ka := Kp.below R6.out.lt ba
            have hfr : ∀ g, (Value.slice VA rs0.length vc).ownBlock = some g → Fr c (w6.alloc (.cells (rowR.C y).toArray 60)) g ∧ c.H < g := fun g e => ⟨(ka g (F6.out g e)).1, (O6.out.lt g e).1⟩
            obtain ⟨R7, f7, b7⟩ := Ra.grown hg7 hfr
            refine ⟨R7, ?_, ?_, B6.out.trans ((ba.mono (by have := P6.out.1; omega)).trans (b7.mono (Nat.le_of_lt hl))), ((P6.out.on ba).keep b7 hl), ?_⟩
            · rw [HROW.out, List.length_append, List.length_singleton]; exact hown7
            · intro g e
              rcases hat7 with h | h
              · rw [h] at e; exact f7 g (hfr g e).1
              · rw [h] at e
                obtain rfl := Option.some.inj e
                have hlt7 := (hown7.lt _ (by rw [h])).2
                refine ⟨hlt7, fun e => by have := R6.out.lt; omega, fun V' e' => ?_⟩
                have e1 := R7.2.2.2.2.2
                obtain ⟨V2, hb2, hw2⟩ := e1
                have e3 := hb2.c 1 rfl
                rw [e'] at e3
                obtain rfl := Option.some.inj e3
                obtain ⟨V3, hb3, hw3⟩ := Ra.2.2.2.2.2
                have e4 := hg7.cell_far ⟨c.H, 1, none⟩ hb3.1 (fun e => Nat.lt_irrefl _ (hfr c.H e.symm).2)
                rw [hb3.c 1 rfl, e'] at e4
                obtain rfl := Option.some.inj e4
                intro e5
                have := (hw3.lt _ e5).2
                simp at this
            · rw [leftN_rd R7]; exact MM.out)
          clear hown7 hg7 hat7 x0 x1 x2 hxs R6 O6 F6 B6 P6 O6r hcl hn6 hcn HROW
          go_wp2_with fail
          exact ⟨⟨rs0 ++ [x], j5, Lib.hid FIN.out.1, Lib.hid FIN.out.2.1, Lib.hid FIN.out.2.2.1, TD, Lib.hid FIN.out.2.2.2.1, Lib.hid FIN.out.2.2.2.2.1, I6n⟩, FIN.out.2.2.2.2.2⟩
    · obtain rfl : j = c.ls.length := by have := I0.out.le; omega
      have hFF := I3.out
      rw [List.drop_of_length_le (Nat.le_refl _)] at hFF
      have HG := Lib.hid (PTree.toldR_last hFF)
      have gn : ¬ (1 : Int) < (n : Int) := by omega
      obtain ⟨_, _, _, _, _, V2, hb2, hw2⟩ := I0.out
      obtain rfl : V2 = V := by
        have h1 := hb2.c 1 rfl
        rw [c1] at h1
        exact (Option.some.inj h1).symm
      obtain ⟨B, cb, rfl, hB0⟩ := own_slice hw2
      obtain ⟨VA, vc, rfl, hva⟩ := own_slice I1.out
      obtain ⟨wz, hwz, PZ, ON⟩ := store2 I5.out (.slice VA rs0.length vc) (.slice B (PTree.exprsOf 0 rs0).length cb)
      obtain ⟨d0, d1⟩ := box2 I5.out
      obtain ⟨f0, f1⟩ := box2f I5.out
      obtain ⟨q0, q1⟩ := box2 PZ
      rw [← hwz] at q0 q1
      have hsp := I5.out.1
      have hel := PTree.exprsOf_len 0 rs0
      have hrl := PTree.rowsOf_len 0 rs0
      have SE : SlX exR wr B (PTree.exprsOf 0 rs0).length (PTree.exprsOf 0 rs0) := by
        obtain ⟨A', c', e, _, _, h⟩ := slr_of_own hw2 rfl
        cases e; exact h
      have CE : (PTree.exprsOf 0 rs0).length ≤ cb := by
        obtain ⟨A', c', e, _, g, h⟩ := slr_of_own hw2 rfl
        cases e; exact g
      have CR : rs0.length ≤ vc := by
        obtain ⟨A', c', e, _, g, h⟩ := slr_of_own I1.out hrl
        cases e; exact g
      have SR : SlX rowR wr VA rs0.length (PTree.rowsOf 0 rs0) := by
        obtain ⟨A', c', e, _, _, h⟩ := slr_of_own I1.out hrl
        cases e; exact h
      have FE := own_from hw2
      have FR := own_from I1.out
      have hl := HLS.out.1
      have FIN : Hid (TreeAns (some (.ok [] rs0)) w (.returned (.tuple #[.agg #[.slice VA rs0.length vc, .slice B (PTree.exprsOf 0 rs0).length cb], .int .i64 0, .int .i64 0])) wz) := Lib.hid (by
        refine ⟨ON.below (Nat.le_refl _) I4.out, VA, vc, B, cb, by rw [hel], hva, ⟨hB0, CR, by rw [← hel]; exact CE⟩, ?_, ?_⟩
        · rw [← hwz]
          exact (SR.far FR (by exact Nat.lt_succ_of_lt hl) _).far FR (by exact Nat.lt_succ_of_lt hl) _
        · rw [← hwz, ← hel]
          exact (SE.far FE (by exact Nat.lt_succ_of_lt hl) _).far FE (by exact Nat.lt_succ_of_lt hl) _)
      have HWZ := Lib.hid hwz
      clear hb hb2 hw2 hwz PZ ON I0 I1 I2 I3 I4 I5 I6 SE SR CE CR FE FR hl hel hrl t0 t1 t2 hFF en hlt
      go_wp2_with fail
      (try simp only [Exit.inBlock, Exit.then])
      refine bodyPost_ret (by simp [results, Tryz.results10, go_sem, q0, q1]; try rfl) rfl ?_
      rw [HWZ.out, ← HQ.out, HG.out]
      exact FIN.out
theorem tparse_any (s : ByteArray) (w : World) (hs : s.size ≤ 4000) :
    Calls Tryz.prog 10 #[.string s] w (TreeAns (PTree.parse s.data.toList) w) := by
  obtain ⟨r, hr⟩ : ∃ r, PLex.all PLex.kindOf 0 s.data.toList = r := ⟨_, rfl⟩
  obtain ⟨q, ts⟩ := r
  cases q with
  | none => exact parse_toks w hs hr
  | some q => exact parse_lex w (by omega) (by rw [hr])
end Go.Proofs.YtdkcdgjpcojdfaaGreatDoor
