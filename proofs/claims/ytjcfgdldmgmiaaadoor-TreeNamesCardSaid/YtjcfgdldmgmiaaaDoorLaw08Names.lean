/-
  TreeNames: a rule of any name is read just if that is a word that is taken by nothing; and of any kind, just if that is one of the four.
-/
import Derived.Test.YtjcfgdldmgmiaaaDoorLaw08Awake
import Derived.Test.YtjcfgdldmgmiaaaDoorRef08One
namespace PTree
open PLex (Tok Lone kindOf)
theorem ex_one (en p q : Nat) : ex en .whole 1 [⟨2, [49], p⟩, ⟨5, [59], q⟩] = some (.ok [⟨5, [59], q⟩] (.whole 1)) := by rfl
theorem names_toks {k n : List UInt8} (hk : Lone kindOf 1 k) (hn : Lone kindOf 1 n) : ∃ p1 p2 p3 p4, PLex.all kindOf 0 (k ++ 32 :: (n ++ 32 :: [61, 32, 49, 59])) = (none, [⟨1, k, 0⟩, ⟨1, n, p1⟩, ⟨5, [61], p2⟩, ⟨2, [49], p3⟩, ⟨5, [59], p4⟩]) := by
  have h0 : PLex.all kindOf 0 [61, 32, 49, 59] = (none, [⟨5, [61], 0⟩, ⟨2, [49], 2⟩, ⟨5, [59], 3⟩]) := by decide +kernel
  rw [PLex.all_word hk PLex.sep_blank, PLex.all_blank, PLex.all_word hn PLex.sep_blank, PLex.all_blank]
  have h1 := PLex.all_shift kindOf 4 0 (0 + k.length + 1 + n.length + 1) [61, 32, 49, 59] (by decide)
  rw [Nat.zero_add, h0] at h1
  rw [h1]
  exact ⟨_, _, _, _, rfl⟩
theorem names_yes {k n : List UInt8} (hk : Lone kindOf 1 k) (hn : Lone kindOf 1 n) (h1 : k ∈ kinds) (h2 : n ∉ takenL) : parse (k ++ 32 :: (n ++ 32 :: [61, 32, 49, 59])) = some (.ok [] [⟨k, n, .whole 1⟩]) := by
  obtain ⟨p1, p2, p3, p4, h⟩ := names_toks hk hn
  unfold parse
  rw [h]
  simp only []
  rw [rules_cons, if_neg (fun k' => k' h1), if_neg (by decide)]
  simp only []
  rw [if_neg (fun k' => k'.elim (fun k' => k' rfl) h2)]
  have e1 : ∀ en, must en [61] [⟨5, [61], p2⟩, ⟨2, [49], p3⟩, ⟨5, [59], p4⟩] = some (.ok [⟨2, [49], p3⟩, ⟨5, [59], p4⟩] ()) := fun _ => rfl
  have e2 : ∀ en, must en [59] [⟨5, [59], p4⟩] = some (.ok [] ()) := fun _ => rfl
  rw [e1]
  simp only [R.next, ex_one, e2, rules_nil]
  rfl
theorem names_no {k n : List UInt8} (hk : Lone kindOf 1 k) (hn : Lone kindOf 1 n) (h : ¬ (k ∈ kinds ∧ n ∉ takenL)) : ∃ q, parse (k ++ 32 :: (n ++ 32 :: [61, 32, 49, 59])) = some (.bad 2 q) := by
  obtain ⟨p1, p2, p3, p4, ht⟩ := names_toks hk hn
  unfold parse
  rw [ht]
  simp only []
  rw [rules_cons]
  by_cases h1 : k ∈ kinds
  · rw [if_neg (fun k' => k' h1), if_neg (by decide)]
    simp only []
    have h2 : n ∈ takenL := Classical.not_not.1 (fun k' => h ⟨h1, k'⟩)
    rw [if_pos (.inr h2)]
    exact ⟨_, rfl⟩
  · rw [if_pos (by exact h1)]
    exact ⟨_, rfl⟩
end PTree
namespace Go.Proofs.YtjcfgdldmgmiaaaDoor
open Go.RowKit
open PTree (R Ex Tr Rl Row)

/-- What a text is, that is one word. -/
theorem lone_of_all {s : List UInt8} {ts : List PLex.Tok} (h : PLex.all PLex.kindOf 0 s = (none, ts)) {x : PLex.Tok} (hts : ts = [x]) (hx : x.text = s) (hk : x.kind = 1) : PLex.Lone PLex.kindOf 1 s := by
  have hl := PLex.all_lone (K := PLex.kindOf) s.length 0 s (Nat.le_refl _)
  rw [h, hts] at hl
  have := hl x (List.mem_singleton.2 rfl)
  rw [hk, hx] at this; exact this
set_option maxRecDepth 100000 in
set_option maxHeartbeats 6400000 in
theorem tnames_walk (k n : ByteArray) (w : World) (hk : k.size ≤ maxLen) (hn : n.size ≤ maxLen) :
    Calls Tryd.prog 9 #[.string k, .string n] w fun e w' => e = .returned (.bool true) ∧ Below w.heap.size w w' := by
  unfold maxLen at hk hn
  have AW := Lib.hid awake_any
  by_cases hs : 20 < k.size ∨ 20 < n.size
  · rcases hs with hs | hs
    · have gs : (20 : Int) < (k.size : Int) := by omega
      go_enter Tryd.func9, Tryd.ntmps9
      go_wp2_with fail
      refine (AW.out _).mono ?_
      rintro _ w1 ⟨rfl, b⟩
      have B := Lib.hid b
      clear b
      go_wp2_with fail
      go_ret
      exact ⟨rfl, B.out⟩
    · by_cases hs1 : 20 < k.size
      · have gs : (20 : Int) < (k.size : Int) := by omega
        go_enter Tryd.func9, Tryd.ntmps9
        go_wp2_with fail
        refine (AW.out _).mono ?_
        rintro _ w1 ⟨rfl, b⟩
        have B := Lib.hid b
        clear b
        go_wp2_with fail
        go_ret
        exact ⟨rfl, B.out⟩
      · have gs1 : ¬ (20 : Int) < (k.size : Int) := by omega
        have gs : (20 : Int) < (n.size : Int) := by omega
        go_enter Tryd.func9, Tryd.ntmps9
        go_wp2_with fail
        refine (AW.out _).mono ?_
        rintro _ w1 ⟨rfl, b⟩
        have B := Lib.hid b
        clear b
        go_wp2_with fail
        go_ret
        exact ⟨rfl, B.out⟩
  have gs1 : ¬ (20 : Int) < (k.size : Int) := by omega
  have gs2 : ¬ (20 : Int) < (n.size : Int) := by omega
  have hk2 : k.size ≤ 20 := by omega
  have hn2 : n.size ≤ 20 := by omega
  obtain ⟨w1, hw1, WB, b1⟩ : ∃ w1, w.alloc (.cells #[.string k, .string n] 9) = w1 ∧ Box w1 w.heap.size [.string k, .string n] ∧ Below w.heap.size w w1 := ⟨_, rfl, Box.new _ _ [.string k, .string n], (Below.refl _ _).alloc (Nat.le_refl _) _⟩
  have WB := Lib.hid WB; have B1 := Lib.hid b1
  clear hs hk hn b1
  go_enter Tryd.func9, Tryd.ntmps9
  go_wp2_with fail
  (try rw [hw1])
  clear hw1
  go_loopw [27] (fun i wr => ∃ q : Nat, q ≤ 2 ∧ i = .int .i64 q ∧ Hid (Below w.heap.size w wr) ∧ Hid (Box wr w.heap.size [.string k, .string n]) ∧ Hid ((0 < q → PLex.Lone PLex.kindOf 1 k.data.toList) ∧ (1 < q → PLex.Lone PLex.kindOf 1 n.data.toList))) (fun i _ => 2 - (intOf i).toNat)
  case atStart => exact ⟨0, by omega, rfl, B1, WB, Lib.hid ⟨fun h => by omega, fun h => by omega⟩⟩
  case round =>
    clear B1 WB
    obtain ⟨q, hq, rfl, I1, I2, I3⟩ := hrel
    by_cases hlt : q < 2
    · obtain ⟨s, hv, hss, hI⟩ : ∃ s : ByteArray, ([.string k, .string n] : List Value)[q]? = some (.string s) ∧ s.size ≤ 20 ∧ (PLex.Lone PLex.kindOf 1 s.data.toList → (0 < q + 1 → PLex.Lone PLex.kindOf 1 k.data.toList) ∧ (1 < q + 1 → PLex.Lone PLex.kindOf 1 n.data.toList)) := by
        have : q = 0 ∨ q = 1 := by omega
        rcases this with rfl | rfl
        · exact ⟨k, rfl, hk2, fun h => ⟨fun _ => h, fun h => by omega⟩⟩
        · exact ⟨n, rfl, hn2, fun h => ⟨fun _ => I3.out.1 (by omega), fun _ => h⟩⟩
      have s0 := I2.out.c q hv
      have hsz := I2.out.1
      have HI := Lib.hid hI
      obtain ⟨r, hr⟩ : ∃ r, PLex.all PLex.kindOf 0 s.data.toList = r := ⟨_, rfl⟩
      obtain ⟨bad, ts⟩ := r
      cases bad with
      | some p =>
        have HL := Lib.hid (fun w => (lall_any s w (by omega)).mono fun _ _ h => h.bad (q := p) (by rw [hr]))
        clear hI hv hr
        go_wp2_with fail
        refine (HL.out _).mono ?_
        rintro _ w2 ⟨A, cap, rfl, b2⟩
        have B2 := Lib.hid (below_step I1.out b2)
        clear b2 HL I1 I2 I3 s0 hsz
        go_wp2_with fail
        refine (AW.out _).mono ?_
        rintro _ w3 ⟨rfl, b3⟩
        have B3 := Lib.hid (below_step B2.out b3)
        clear b3
        go_wp2_with fail
        go_ret
        exact ⟨rfl, B3.out⟩
      | none =>
        have HL := Lib.hid (fun w => (lall_any s w (by omega)).mono fun _ _ h => by rw [hr] at h; exact h.ok rfl)
        simp only [] at HL
        have HR := Lib.hid hr
        clear hI hv hr
        go_wp2_with fail
        refine (HL.out _).mono ?_
        rintro _ w2 ⟨A, cap, rfl, sl2, b2⟩
        have I1n := Lib.hid (below_step I1.out b2)
        have I2n := Lib.hid (I2.out.on b2)
        clear b2 HL I1 I2 s0 hsz
        by_cases h1 : ts.length = 1
        · obtain ⟨x, rfl⟩ := List.length_eq_one_iff.1 h1
          obtain ⟨b, off, rfl, hc⟩ := sl2.at (i := 0) (by simp)
          obtain ⟨t0, t1, -⟩ := hc 0 (by simp)
          have hzz := World.block_lt_of_cell? w2 _ t0
          obtain ⟨u, hu⟩ : ∃ b, ({ data := x.text.toArray } : ByteArray) = b := ⟨_, rfl⟩
          have hul : u.data.toList = x.text := by rw [← hu]
          replace t0 : w2.cell? ⟨b, off, none⟩ = some (.int .i64 (x.kind : Nat)) := by simpa using t0
          replace t1 : w2.cell? ⟨b, off + 1, none⟩ = some (.string u) := by rw [← hu]; simpa using t1
          by_cases h2 : u = s
          · by_cases h3 : x.kind = 1
            · have I3n : Hid ((0 < q + 1 → PLex.Lone PLex.kindOf 1 k.data.toList) ∧ (1 < q + 1 → PLex.Lone PLex.kindOf 1 n.data.toList)) := Lib.hid (HI.out (lone_of_all HR.out rfl (by rw [← hul, h2]) h3))
              have e3 : ((x.kind : Int) != 1) = false := by rw [h3]; rfl
              subst h2
              clear hc sl2 hu hul h3 h1 I3 HI HR
              go_wp2_with fail
              exact ⟨⟨q + 1, by omega, rfl, I1n, I2n, I3n⟩, by simp [intOf]; omega⟩
            · have e3 : ((x.kind : Int) != 1) = true := by rw [bne_iff_ne]; omega
              subst h2
              clear hc sl2 hu hul h3 h1 I3 HI HR I2n
              go_wp2_with fail
              refine (AW.out _).mono ?_
              rintro _ w3 ⟨rfl, b3⟩
              have B3 := Lib.hid (below_step I1n.out b3)
              clear b3
              go_wp2_with fail
              go_ret
              exact ⟨rfl, B3.out⟩
          · have e2 : (u.toList == s.toList) = false := by
              rw [beq_eq_false_iff_ne, ByteArray.toList_eq, ByteArray.toList_eq]
              intro e; exact h2 (by cases u; cases s; simpa using e)
            clear hc sl2 hu hul h1 I3 HI HR I2n h2
            go_wp2_with fail
            refine (AW.out _).mono ?_
            rintro _ w3 ⟨rfl, b3⟩
            have B3 := Lib.hid (below_step I1n.out b3)
            clear b3
            go_wp2_with fail
            go_ret
            exact ⟨rfl, B3.out⟩
        · have e1 : ((ts.length : Int) != 1) = true := by rw [bne_iff_ne]; omega
          clear sl2 h1 I3 HI HR I2n
          go_wp2_with fail
          refine (AW.out _).mono ?_
          rintro _ w3 ⟨rfl, b3⟩
          have B3 := Lib.hid (below_step I1n.out b3)
          clear b3
          go_wp2_with fail
          go_ret
          exact ⟨rfl, B3.out⟩
    · obtain rfl : q = 2 := by omega
      have LK := I3.out.1 (by decide)
      have LN := I3.out.2 (by decide)
      clear I2 I3
      have hE : ((k ++ { data := #[32] } ++ n ++ { data := #[32, 61, 32, 49, 59] } : ByteArray)).data.toList = k.data.toList ++ 32 :: (n.data.toList ++ 32 :: [61, 32, 49, 59]) := by simp
      have hEs : (k ++ { data := #[32] } ++ n ++ { data := #[32, 61, 32, 49, 59] } : ByteArray).size ≤ 4000 := by
        have a1 : ({ data := #[32] } : ByteArray).size = 1 := rfl
        have a2 : ({ data := #[32, 61, 32, 49, 59] } : ByteArray).size = 5 := rfl
        rw [ByteArray.size_append, ByteArray.size_append, ByteArray.size_append]
        omega
      have HTK := Lib.hid (fun w => r8taken_any n w)
      by_cases hkk : k.data.toList ∈ PTree.kinds ∧ n.data.toList ∉ PTree.takenL
      · have HP0 := tparse_ok (rs := [⟨k.data.toList, n.data.toList, .whole 1⟩]) (by rw [hE]; exact PTree.names_yes LK LN hkk.1 hkk.2) hEs
        rw [show ([⟨k.data.toList, n.data.toList, Tr.whole 1⟩] : List Rl).length = 1 from rfl, show PTree.sizeOf [⟨k.data.toList, n.data.toList, Tr.whole 1⟩] = 1 from rfl] at HP0
        have HP := Lib.hid HP0
        rw [decide_eq_false hkk.2] at HTK
        have gk : (k.toList == [101, 97, 114, 110]) = true ∨ ((k.toList == [101, 97, 114, 110]) = false ∧ (k.toList == [112, 114, 101, 116, 97, 120]) = true) ∨ ((k.toList == [101, 97, 114, 110]) = false ∧ (k.toList == [112, 114, 101, 116, 97, 120]) = false ∧ (k.toList == [112, 111, 115, 116]) = true) ∨ ((k.toList == [101, 97, 114, 110]) = false ∧ (k.toList == [112, 114, 101, 116, 97, 120]) = false ∧ (k.toList == [112, 111, 115, 116]) = false ∧ (k.toList == [108, 101, 116]) = true) := by
          have hm := hkk.1
          simp only [PTree.kinds, List.mem_cons, List.not_mem_nil, or_false] at hm
          rcases hm with h | h | h | h
          · exact .inl (bq h)
          · exact .inr (.inl ⟨bn (by rw [h]; decide), bq h⟩)
          · exact .inr (.inr (.inl ⟨bn (by rw [h]; decide), bn (by rw [h]; decide), bq h⟩))
          · exact .inr (.inr (.inr ⟨bn (by rw [h]; decide), bn (by rw [h]; decide), bn (by rw [h]; decide), bq h⟩))
        clear hkk hE hEs LK LN HP0
        go_wp2_with fail
        refine (HP.out _).mono ?_
        rintro _ w2 ⟨A, ca, B, cb, rfl, s1, -, b2⟩
        obtain ⟨bA, oA, rfl, hA⟩ := slx_cell s1 (i := 0) (by simp)
        have x0 : w2.cell? ⟨bA, oA, none⟩ = some (.string k) := by
          have hku : (⟨k.data.toList.toArray⟩ : ByteArray) = k := by cases k; simp
          have h2 : w2.cell? ⟨bA, oA + 0 * 3 + 0, none⟩ = some (.string ⟨k.data.toList.toArray⟩) := hA 0 _ rfl
          rw [hku] at h2; simpa using h2
        have x1 : w2.cell? ⟨bA, oA + 1, none⟩ = some (.string n) := by
          have hnu : (⟨n.data.toList.toArray⟩ : ByteArray) = n := by cases n; simp
          have h2 : w2.cell? ⟨bA, oA + 0 * 3 + 1, none⟩ = some (.string ⟨n.data.toList.toArray⟩) := hA 1 _ rfl
          rw [hnu] at h2; simpa using h2
        have x2 : w2.cell? ⟨bA, oA + 2, none⟩ = some (.int .i64 0) := by
          have h2 : w2.cell? ⟨bA, oA + 0 * 3 + 2, none⟩ = some (.int .i64 0) := hA 2 _ rfl
          simpa using h2
        have B2 := Lib.hid (below_step I1.out b2)
        obtain ⟨w3, hw3, PB, b3⟩ : ∃ w3, w2.alloc (.cells #[.slice (some ⟨bA, oA, none⟩) 1 ca, .slice B 1 cb] 26) = w3 ∧ Box w3 w2.heap.size [.slice (some ⟨bA, oA, none⟩) 1 ca, .slice B 1 cb] ∧ Below w2.heap.size w2 w3 := ⟨_, rfl, Box.new _ _ [.slice (some ⟨bA, oA, none⟩) 1 ca, .slice B 1 cb], (Below.refl _ _).alloc (Nat.le_refl _) _⟩
        have y0 := (b3.cell (World.block_lt_of_cell? w2 _ x0)).trans x0
        have y1 := (b3.cell (World.block_lt_of_cell? w2 _ x1)).trans x1
        have y2 := (b3.cell (World.block_lt_of_cell? w2 _ x2)).trans x2
        have Y := Lib.hid (And.intro y0 (And.intro y1 y2))
        have B3 := Lib.hid (below_step B2.out b3)
        have PB := Lib.hid PB
        have HW3 := Lib.hid hw3
        clear s1 b2 hA x0 x1 x2 b3 y0 y1 y2 I1 HP hw3
        go_upto_region 11 with fail
        rw [HW3.out]
        go_wp2_with fail
        refine (HTK.out _).mono ?_
        rintro _ w4 ⟨rfl, b4⟩
        have y0 := (b4.cell (World.block_lt_of_cell? w3 _ Y.out.1)).trans Y.out.1
        have y1 := (b4.cell (World.block_lt_of_cell? w3 _ Y.out.2.1)).trans Y.out.2.1
        have y2 := (b4.cell (World.block_lt_of_cell? w3 _ Y.out.2.2)).trans Y.out.2.2
        have hy := World.block_lt_of_cell? w4 _ y0
        have P4 := PB.out.on b4
        obtain ⟨p0, p1⟩ := box2 P4
        have hp := P4.1
        have B4 := Lib.hid (below_step B3.out b4)
        clear b4 HTK HW3 P4 PB Y B2 B3
        rcases gk with g1 | ⟨g1, g2⟩ | ⟨g1, g2, g3⟩ | ⟨g1, g2, g3, g4⟩
        all_goals
          go_wp2_with fail
          refine (AW.out _).mono ?_
          rintro _ w5 ⟨rfl, b5⟩
          have B5 := Lib.hid (below_step B4.out b5)
          clear b5
          go_wp2_with fail
          go_ret
          exact ⟨rfl, B5.out⟩
      · obtain ⟨q, hq⟩ := PTree.names_no LK LN hkk
        have HP := Lib.hid (tparse_bad (k := 2) (q := q) (by rw [hE]; exact hq) hEs)
        clear hE hEs LK LN hq
        by_cases ht : n.data.toList ∈ PTree.takenL
        · rw [decide_eq_true ht] at HTK
          clear hkk
          go_wp2_with fail
          refine (HP.out _).mono ?_
          rintro _ w2 ⟨rfl, b2⟩
          have PB := Lib.hid (Box.new w2 26 [.slice none 0 0, .slice none 0 0])
          have B3 := Lib.hid (below_step (below_step I1.out b2) ((Below.refl w2.heap.size w2).alloc (Nat.le_refl _) (.cells #[.slice none 0 0, .slice none 0 0] 26)))
          clear b2 HP I1
          go_wp2_with fail
          refine (HTK.out _).mono ?_
          rintro _ w4 ⟨rfl, b4⟩
          have P4 := PB.out.on b4
          obtain ⟨p0, p1⟩ := box2 P4
          have hp := P4.1
          have B4 := Lib.hid (below_step B3.out b4)
          clear b4 HTK P4 PB B3
          go_wp2_with fail
          refine (AW.out _).mono ?_
          rintro _ w5 ⟨rfl, b5⟩
          have B5 := Lib.hid (below_step B4.out b5)
          clear b5
          go_wp2_with fail
          go_ret
          exact ⟨rfl, B5.out⟩
        · rw [decide_eq_false ht] at HTK
          have hnk : k.data.toList ∉ PTree.kinds := fun h => hkk ⟨h, ht⟩
          have g1 : (k.toList == [101, 97, 114, 110]) = false := bn (fun h => hnk (by rw [h]; decide))
          have g2 : (k.toList == [112, 114, 101, 116, 97, 120]) = false := bn (fun h => hnk (by rw [h]; decide))
          have g3 : (k.toList == [112, 111, 115, 116]) = false := bn (fun h => hnk (by rw [h]; decide))
          have g4 : (k.toList == [108, 101, 116]) = false := bn (fun h => hnk (by rw [h]; decide))
          clear hkk ht hnk
          go_wp2_with fail
          refine (HP.out _).mono ?_
          rintro _ w2 ⟨rfl, b2⟩
          have PB := Lib.hid (Box.new w2 26 [.slice none 0 0, .slice none 0 0])
          have B3 := Lib.hid (below_step (below_step I1.out b2) ((Below.refl w2.heap.size w2).alloc (Nat.le_refl _) (.cells #[.slice none 0 0, .slice none 0 0] 26)))
          clear b2 HP I1
          go_wp2_with fail
          refine (HTK.out _).mono ?_
          rintro _ w4 ⟨rfl, b4⟩
          have P4 := PB.out.on b4
          obtain ⟨p0, p1⟩ := box2 P4
          have hp := P4.1
          have B4 := Lib.hid (below_step B3.out b4)
          clear b4 HTK P4 PB B3
          go_wp2_with fail
          refine (AW.out _).mono ?_
          rintro _ w5 ⟨rfl, b5⟩
          have B5 := Lib.hid (below_step B4.out b5)
          clear b5
          go_wp2_with fail
          go_ret
          exact ⟨rfl, B5.out⟩
end Go.Proofs.YtjcfgdldmgmiaaaDoor
