/-
  TreeLeft: a sum of so many numbers is read from the left.
-/
import Derived.Test.YtjcfgdldmgmiaaaDoorLaw08Awake
import Derived.Test.YtjcfgdldmgmiaaaDoorTreeLeft
import Derived.Test.YtjcfgdldmgmiaaaDoorSlRow5
import Derived.Laws.IdiomStrings
namespace Go.Proofs.YtjcfgdldmgmiaaaDoor
open Go.RowKit
open PTree (R Ex Tr Rl Row digs headS letT leftE)

/-- A byte, as a text. -/
theorem convert_dig (W : World) {m : Nat} (hm : m ≤ 9) : (convert 55 9 (.slice (some ⟨W.heap.size, 0, none⟩) 1 1)).run Tryd.prog (W.alloc (.cells #[.int .u8 (48 + (m : Int))] 5)) = .ok (.string ⟨[UInt8.ofNat (48 + m)].toArray⟩) (W.alloc (.cells #[.int .u8 (48 + (m : Int))] 5)) := by
  refine run_convert_bytes_back _ 55 9 5 ⟨W.heap.size, 0, none⟩ 1 [UInt8.ofNat (48 + m)] Tryd.underlying55 Tryd.underlying5 Tryd.underlying9 fun j hj => ?_
  have h0 : j = 0 := by simp at hj; omega
  subst h0
  simp only [Addr.add, if_true]
  rw [World.cell?_alloc_new]
  have : (UInt8.ofNat (48 + m)).toNat = 48 + m := by rw [UInt8.toNat_ofNat']; omega
  simp only [List.getElem_cons_zero]
  rw [this]
  simp
theorem convert_dig2 (W : World) (o : Obj) {m : Nat} (hm : m ≤ 9) : (convert 55 9 (.slice (some ⟨W.heap.size + 1, 0, none⟩) 1 1)).run Tryd.prog ((W.alloc o).alloc (.cells #[.int .u8 (48 + (m : Int))] 5)) = .ok (.string ⟨[UInt8.ofNat (48 + m)].toArray⟩) ((W.alloc o).alloc (.cells #[.int .u8 (48 + (m : Int))] 5)) := by
  have h := convert_dig (W.alloc o) hm
  rw [World.size_alloc] at h; exact h
theorem convert_dig3 (W : World) (o o' : Obj) {m : Nat} (hm : m ≤ 9) : (convert 55 9 (.slice (some ⟨W.heap.size + 1 + 1, 0, none⟩) 1 1)).run Tryd.prog (((W.alloc o).alloc o').alloc (.cells #[.int .u8 (48 + (m : Int))] 5)) = .ok (.string ⟨[UInt8.ofNat (48 + m)].toArray⟩) (((W.alloc o).alloc o').alloc (.cells #[.int .u8 (48 + (m : Int))] 5)) := by
  have h := convert_dig2 (W.alloc o) o' hm
  rw [World.size_alloc] at h; exact h
def numsOf (zs : List Int) : List Nat := zs.map (fun z => (z % 1000).toNat)
/-- What tree.Parse answers to a sum of numbers. -/
theorem left_ans {y : List UInt8} {ks : List Nat} (hy : y = headS ks) (hk : ∀ x ∈ ks, x < 1000) (h0 : ks.length ≠ 0) (hl : y.length ≤ 400) :
    ∃ (m : Nat) (E : List Ex), m + 1 = 2 * ks.length ∧ (∀ i k, ks[i]? = some k → E[2 * i - 1]? = some ⟨[119, 104, 111, 108, 101], [], (k : Int), 0, 0, 0⟩ ∧ (0 < i → E[2 * i]? = some ⟨[43], [], 0, 2 * i - 2, 2 * i - 1, 0⟩)) ∧
      ∀ w, Calls Tryd.prog 11 #[.string ({ data := y.toArray } ++ { data := #[59] })] w fun e w' => ∃ A ca B cb, e = .returned (.tuple #[.agg #[.slice A 1 ca, .slice B m cb], .int .i64 0, .int .i64 0]) ∧ SlX exR w' B m E ∧ Below w.heap.size w w' := by
  cases ks with
  | nil => exact absurd rfl h0
  | cons k r =>
    have hp := PTree.left_parse (hk k (List.mem_cons_self ..)) (fun x hx => hk x (List.mem_cons_of_mem _ hx))
    rw [← PTree.headS_end, ← hy] at hp
    have hb : ({ data := y.toArray } ++ { data := #[59] } : ByteArray).data.toList = y ++ [59] := by simp
    have hs : ({ data := y.toArray } ++ { data := #[59] } : ByteArray).size ≤ 4000 := by
      show ({ data := y.toArray } ++ { data := #[59] } : ByteArray).data.size ≤ 4000
      rw [← Array.length_toList, hb, List.length_append]
      simp only [List.length_cons, List.length_nil]; omega
    refine ⟨2 * r.length + 1, leftE k r, by rw [List.length_cons]; omega, ?_, ?_⟩
    · intro i x hx
      have hi : i < r.length + 1 := by
        have := (List.getElem?_eq_some_iff.1 hx).1
        simpa using this
      have hx2 : (k :: r)[i]'(by simpa using hi) = x := by
        obtain ⟨_, h⟩ := List.getElem?_eq_some_iff.1 hx; exact h
      refine ⟨?_, fun h => PTree.leftE_sum hi h⟩
      rw [PTree.leftE_num hi, hx2]
    · intro w
      refine (tparse_ok (by rw [hb]; exact hp) hs w).mono ?_
      rintro e w' ⟨A, ca, B, cb, rfl, _, h2, hb⟩
      have hz : PTree.sizeOf [⟨[108, 101, 116], [97], PTree.sumT (.whole k) r⟩] = 2 * r.length + 1 := by
        rw [← PTree.exprsOf_len 0, PTree.left_exprs, PTree.leftE_len]
      rw [hz, PTree.left_exprs] at h2
      exact ⟨A, ca, B, cb, by rw [hz]; rfl, h2, hb⟩
set_option maxRecDepth 100000 in
set_option maxHeartbeats 6400000 in
theorem tleft_small {A : Option Addr} {len cap : Nat} {zs : List Int} {w : World} (hA : SlK .u16 w A len zs) (h0 : len ≠ 0) (h60 : len ≤ 60) :
    Calls Tryd.prog 8 #[.slice A len cap] w fun e w' => e = .returned (.bool true) ∧ Below w.heap.size w w' := by
  obtain ⟨hl, hwf, -, hq⟩ := hA
  obtain ⟨b, off, rfl, hc⟩ := hq.resolve_left h0
  clear hq
  obtain ⟨ks, hks⟩ : ∃ ks, numsOf zs = ks := ⟨_, rfl⟩
  have hkl : ks.length = len := by rw [← hks, numsOf, List.length_map, hl]
  have hkb : ∀ x ∈ ks, x < 1000 := fun x hx => by
    rw [← hks] at hx
    obtain ⟨z, _, rfl⟩ := List.mem_map.1 hx
    omega
  -- the numbers, in cells
  have hn : ∀ i, i < len → ∃ (z : Int) (k : Nat), w.cell? ⟨b, off + i, none⟩ = some (.int .u16 z) ∧ 0 ≤ z ∧ z ≤ 65535 ∧ z % 1000 = (k : Int) ∧ ks[i]? = some k := fun i hi => by
    have h1 := u16_bounds (hwf i hi)
    refine ⟨zs.getD i 0, (zs.getD i 0 % 1000).toNat, hc i hi, h1.1, h1.2, by omega, ?_⟩
    have hz : i < zs.length := by omega
    rw [← hks, numsOf, List.getElem?_map, List.getElem?_eq_getElem hz]
    simp [List.getD, hz]
  have HN := Lib.hid hn; have HKB := Lib.hid hkb; have HKL := Lib.hid hkl
  have g0 : ((len : Int) == 0) = false := by rw [beq_eq_false_iff_ne]; omega
  have g60 : ¬ (60 : Int) < (len : Int) := by omega
  have g61 : (len : Int) ≤ 60 := by omega
  clear hl hwf hc hks hkl hkb hn
  clear zs
  go_enter Tryd.func8, Tryd.ntmps8
  go_wp2_with fail
  go_loopw [3, 25] (fun x i wr => ∃ (t : Nat) (y : List UInt8), t ≤ len ∧ i = .int .i64 t ∧ x = .string ⟨y.toArray⟩ ∧ y.length ≤ 400 ∧ Hid (y = headS (ks.take t)) ∧ Hid (Below w.heap.size w wr)) (fun _ i _ => len - (intOf i).toNat)
  case atStart => exact ⟨0, letT, Nat.zero_le _, rfl, rfl, by decide, Lib.hid rfl, Lib.hid (Below.refl _ _)⟩
  case round =>
    obtain ⟨t, y, ht, rfl, rfl, hy, HY, HB⟩ := hrel
    by_cases hlt : t < len
    · obtain ⟨z, k, hz, z0, z1, hzk, hk⟩ := HN.out t hlt
      have hz := (HB.out.cell (World.block_lt_of_cell? w _ hz)).trans hz
      have hsz := World.block_lt_of_cell? wr _ hz
      have hztm : z.tmod 1000 = (k : Int) := by rw [Int.tmod_eq_emod_of_nonneg z0]; exact hzk
      have hk1 : k < 1000 := by omega
      have hkt : ks.take (t + 1) = ks.take t ++ [k] := by rw [List.take_add_one, hk]; rfl
      have HH : Hid (headS (ks.take (t + 1)) = y ++ ((if t = 0 then [] else [32, 43, 32]) ++ digs k)) := Lib.hid (by
        rw [hkt, PTree.headS_snoc, ← HY.out]
        have : (ks.take t = []) ↔ t = 0 := by rw [List.take_eq_nil_iff]; constructor
                                              · rintro (h | h)
                                                · exact h
                                                · rw [h] at hk; cases hk
                                              · exact .inl
        by_cases h : t = 0
        · rw [if_pos (this.2 h), if_pos h]
        · rw [if_neg (fun k' => h (this.1 k')), if_neg h])
      have hlen : (headS (ks.take (t + 1))).length ≤ 400 := by
        have := PTree.headS_len (ks.take (t + 1)) (fun x hx => HKB.out x (List.mem_of_mem_take hx))
        rw [List.length_take] at this; omega
      obtain ⟨c1, hc1⟩ : ∃ c, k % 10 = c := ⟨_, rfl⟩
      obtain ⟨c2, hc2⟩ : ∃ c, k / 10 % 10 = c := ⟨_, rfl⟩
      obtain ⟨c3, hc3⟩ : ∃ c, k / 100 = c := ⟨_, rfl⟩
      have e1 : ((k : Int) % 10) = (c1 : Int) := by omega
      have e2 : ((k : Int) / 10 % 10) = (c2 : Int) := by omega
      have e3 : ((k : Int) / 100) = (c3 : Int) := by omega
      have l1 : c1 ≤ 9 := by omega
      have l2 : c2 ≤ 9 := by omega
      have l3 : c3 ≤ 9 := by omega
      have HDG : Hid (digs k = (if 99 < k then [UInt8.ofNat (48 + c3)] else []) ++ (if 9 < k then [UInt8.ofNat (48 + c2)] else []) ++ [UInt8.ofNat (48 + c1)]) := Lib.hid (by rw [← hc1, ← hc2, ← hc3]; rfl)
      clear hzk hk hkt HY hc1 hc2 hc3
      by_cases h99 : 99 < k
      · have h9 : 9 < k := by omega
        have g99 : (99 : Int) < k := by omega
        have g9 : (9 : Int) < k := by omega
        have d3 := convert_dig wr l3
        have d2 := convert_dig2 wr (.cells #[.int .u8 (48 + (c3 : Int))] 5) l2
        have d1 := convert_dig3 wr (.cells #[.int .u8 (48 + (c3 : Int))] 5) (.cells #[.int .u8 (48 + (c2 : Int))] 5) l1
        have BB := Lib.hid (((HB.out.alloc HB.out.size (.cells #[.int .u8 (48 + (c3 : Int))] 5)).alloc (Nat.le_trans HB.out.size (by simp)) (.cells #[.int .u8 (48 + (c2 : Int))] 5)).alloc (Nat.le_trans HB.out.size (by simp; omega)) (.cells #[.int .u8 (48 + (c1 : Int))] 5))
        have HDD : Hid (digs k = [48 + UInt8.ofNat c3, 48 + UInt8.ofNat c2, 48 + UInt8.ofNat c1]) := Lib.hid (by rw [HDG.out, if_pos h99, if_pos h9]; simp)
        by_cases ht0 : t = 0
        · have HS : Hid ((({ data := y.toArray } : ByteArray) ++ { data := #[48 + UInt8.ofNat c3] } ++ { data := #[48 + UInt8.ofNat c2] } ++ { data := #[48 + UInt8.ofNat c1] }) = ⟨(headS (ks.take (t + 1))).toArray⟩) := Lib.hid (by rw [HH.out, HDD.out, if_pos ht0]; apply ByteArray.ext; simp)
          subst ht0
          have hz : wr.cell? ⟨b, off, none⟩ = some (.int .u16 z) := hz
          clear HH HDG HDD HB
          go_wp2_with fail
          exact ⟨⟨0 + 1, headS (ks.take (0 + 1)), hlt, rfl, congrArg Value.string HS.out, hlen, Lib.hid rfl, BB⟩, by simp [intOf]; omega⟩
        · have HS : Hid ((({ data := y.toArray } : ByteArray) ++ { data := #[32, 43, 32] } ++ { data := #[48 + UInt8.ofNat c3] } ++ { data := #[48 + UInt8.ofNat c2] } ++ { data := #[48 + UInt8.ofNat c1] }) = ⟨(headS (ks.take (t + 1))).toArray⟩) := Lib.hid (by rw [HH.out, HDD.out, if_neg ht0]; apply ByteArray.ext; simp)
          have gt : (0 : Int) < t := by omega
          clear HH HDG HDD HB
          go_wp2_with fail
          exact ⟨⟨t + 1, headS (ks.take (t + 1)), hlt, rfl, congrArg Value.string HS.out, hlen, Lib.hid rfl, BB⟩, by simp [intOf]; omega⟩
      · have g99 : ¬ (99 : Int) < k := by omega
        by_cases h9 : 9 < k
        · have g9 : (9 : Int) < k := by omega
          have e2 : (k : Int) / 10 % 10 = (c2 : Int) := e2
          have d2 := convert_dig wr l2
          have d1 := convert_dig2 wr (.cells #[.int .u8 (48 + (c2 : Int))] 5) l1
          have BB := Lib.hid ((HB.out.alloc HB.out.size (.cells #[.int .u8 (48 + (c2 : Int))] 5)).alloc (Nat.le_trans HB.out.size (by simp)) (.cells #[.int .u8 (48 + (c1 : Int))] 5))
          have HDD : Hid (digs k = [48 + UInt8.ofNat c2, 48 + UInt8.ofNat c1]) := Lib.hid (by rw [HDG.out, if_neg h99, if_pos h9]; simp)
          by_cases ht0 : t = 0
          · have HS : Hid ((({ data := y.toArray } : ByteArray) ++ { data := #[48 + UInt8.ofNat c2] } ++ { data := #[48 + UInt8.ofNat c1] }) = ⟨(headS (ks.take (t + 1))).toArray⟩) := Lib.hid (by rw [HH.out, HDD.out, if_pos ht0]; apply ByteArray.ext; simp)
            subst ht0
            have hz : wr.cell? ⟨b, off, none⟩ = some (.int .u16 z) := hz
            clear HH HDG HDD HB
            go_wp2_with fail
            exact ⟨⟨0 + 1, headS (ks.take (0 + 1)), hlt, rfl, congrArg Value.string HS.out, hlen, Lib.hid rfl, BB⟩, by simp [intOf]; omega⟩
          · have HS : Hid ((({ data := y.toArray } : ByteArray) ++ { data := #[32, 43, 32] } ++ { data := #[48 + UInt8.ofNat c2] } ++ { data := #[48 + UInt8.ofNat c1] }) = ⟨(headS (ks.take (t + 1))).toArray⟩) := Lib.hid (by rw [HH.out, HDD.out, if_neg ht0]; apply ByteArray.ext; simp)
            have gt : (0 : Int) < t := by omega
            clear HH HDG HDD HB
            go_wp2_with fail
            exact ⟨⟨t + 1, headS (ks.take (t + 1)), hlt, rfl, congrArg Value.string HS.out, hlen, Lib.hid rfl, BB⟩, by simp [intOf]; omega⟩
        · have g9 : ¬ (9 : Int) < k := by omega
          have d1 := convert_dig wr l1
          have BB := Lib.hid (HB.out.alloc HB.out.size (.cells #[.int .u8 (48 + (c1 : Int))] 5))
          have HDD : Hid (digs k = [48 + UInt8.ofNat c1]) := Lib.hid (by rw [HDG.out, if_neg h99, if_neg h9]; simp)
          by_cases ht0 : t = 0
          · have HS : Hid ((({ data := y.toArray } : ByteArray) ++ { data := #[48 + UInt8.ofNat c1] }) = ⟨(headS (ks.take (t + 1))).toArray⟩) := Lib.hid (by rw [HH.out, HDD.out, if_pos ht0]; apply ByteArray.ext; simp)
            subst ht0
            have hz : wr.cell? ⟨b, off, none⟩ = some (.int .u16 z) := hz
            clear HH HDG HDD HB
            go_wp2_with fail
            exact ⟨⟨0 + 1, headS (ks.take (0 + 1)), hlt, rfl, congrArg Value.string HS.out, hlen, Lib.hid rfl, BB⟩, by simp [intOf]; omega⟩
          · have HS : Hid ((({ data := y.toArray } : ByteArray) ++ { data := #[32, 43, 32] } ++ { data := #[48 + UInt8.ofNat c1] }) = ⟨(headS (ks.take (t + 1))).toArray⟩) := Lib.hid (by rw [HH.out, HDD.out, if_neg ht0]; apply ByteArray.ext; simp)
            have gt : (0 : Int) < t := by omega
            clear HH HDG HDD HB
            go_wp2_with fail
            exact ⟨⟨t + 1, headS (ks.take (t + 1)), hlt, rfl, congrArg Value.string HS.out, hlen, Lib.hid rfl, BB⟩, by simp [intOf]; omega⟩
    · obtain rfl : t = len := by omega
      obtain ⟨wo, hwo⟩ : ∃ wo, wo = wr := ⟨_, rfl⟩
      subst hwo
      have HYS := HY.out
      rw [List.take_of_length_le (by rw [HKL.out]; exact Nat.le_refl _)] at HYS
      obtain ⟨m, E, hm, hE, HP0⟩ := left_ans (y := y) (ks := ks) HYS HKB.out (by rw [HKL.out]; exact h0) hy
      have HE := Lib.hid hE; have HP := Lib.hid HP0
      have hm2 : m + 1 = 2 * t := by rw [← HKL.out]; exact hm
      have hmi : (m : Int) = 2 * (t : Int) - 1 := by omega
      have mm : ((m : Int) != 2 * (t : Int) - 1) = false := by rw [hmi]; exact bne_self_eq_false _
      have hm5 : (m : Int) ≤ 1000 := by omega
      clear HYS HP0 hE HY ht hlt hm
      go_wp2_with fail
      refine (HP.out _).mono ?_
      rintro _ w3 ⟨A3, ca3, B3, cb3, rfl, s3, b3⟩
      obtain ⟨w4, hw4, PB, b4⟩ : ∃ w4, w3.alloc (.cells #[.slice A3 1 ca3, .slice B3 m cb3] 26) = w4 ∧ Box w4 w3.heap.size [.slice A3 1 ca3, .slice B3 m cb3] ∧ Below w3.heap.size w3 w4 := ⟨_, rfl, Box.new _ _ [.slice A3 1 ca3, .slice B3 m cb3], (Below.refl _ _).alloc (Nat.le_refl _) _⟩
      have S3 := Lib.hid (s3.on b4)
      have B4 := Lib.hid (below_step (below_step HB.out b3) b4)
      have PB := Lib.hid PB
      have HW4 := Lib.hid hw4
      obtain ⟨G, hG⟩ : ∃ G, w3.heap.size = G := ⟨_, rfl⟩
      rw [hG] at PB
      have HG := Lib.hid hG
      obtain ⟨x0, x1⟩ := box2 PB.out
      have hsx := PB.out.1
      clear s3 b3 b4 hw4 hG HP HB
      go_upto_region 17 with fail
      rw [HW4.out]
      (try rw [HG.out])
      clear HW4 HG
      go_wp2_with fail
      clear x0 x1 hsx
      go_loopw [88] (fun i wr => ∃ (q : Nat), q ≤ t ∧ i = .int .i64 q ∧ Hid (Below w4.heap.size w4 wr)) (fun i _ => t - (intOf i).toNat)
      case atStart => exact ⟨0, Nat.zero_le _, rfl, Lib.hid (Below.refl _ _)⟩
      case round =>
        obtain ⟨q, hq, rfl, HB⟩ := hrel
        have BQ := Lib.hid (below_step B4.out HB.out)
        have PQ := PB.out.on HB.out
        obtain ⟨x0, x1⟩ := box2 PQ
        have hsx := PQ.1
        by_cases hlt : q < t
        · obtain ⟨z, k, hz, z0, z1, hzk, hk⟩ := HN.out q hlt
          have hz := (BQ.out.cell (World.block_lt_of_cell? w _ hz)).trans hz
          have hsz := World.block_lt_of_cell? wr _ hz
          have hztm : z.tmod 1000 = (k : Int) := by rw [Int.tmod_eq_emod_of_nonneg z0]; exact hzk
          have hk1 : k < 1000 := by omega
          have kk : ((k : Int) != (k : Int)) = false := bne_self_eq_false _
          obtain ⟨E1, E2⟩ := HE.out q k hk
          have SQ := S3.out.on HB.out
          obtain ⟨b3, off3, rfl, hc3⟩ := SQ.at (show 0 < m by omega)
          have hmE := SQ.1
          obtain ⟨j, hj⟩ : ∃ j, 2 * q - 1 = j := ⟨_, rfl⟩
          rw [hj] at E1
          have hjl : j < E.length := by rw [hmE]; omega
          have hcj := hc3 j hjl
          rw [show E[j] = _ from Option.some.inj ((List.getElem?_eq_getElem hjl).symm.trans E1)] at hcj
          have c0 : wr.cell? ⟨b3, off3 + j * 6, none⟩ = some (.string { data := #[119, 104, 111, 108, 101] }) := by simpa [exR] using hcj 0 _ rfl
          have c1 : wr.cell? ⟨b3, off3 + j * 6 + 1, none⟩ = some (.string { data := #[] }) := hcj 1 _ rfl
          have c2 : wr.cell? ⟨b3, off3 + j * 6 + 2, none⟩ = some (.int .i64 (k : Int)) := hcj 2 _ rfl
          have c3 : wr.cell? ⟨b3, off3 + j * 6 + 3, none⟩ = some (.int .i64 0) := hcj 3 _ rfl
          have c4 : wr.cell? ⟨b3, off3 + j * 6 + 4, none⟩ = some (.int .i64 0) := hcj 4 _ rfl
          have c5 : wr.cell? ⟨b3, off3 + j * 6 + 5, none⟩ = some (.int .i64 0) := hcj 5 _ rfl
          have hs3 := World.block_lt_of_cell? wr _ c0
          obtain ⟨w5, hw5, YB, b5⟩ : ∃ w5, wr.alloc (.cells #[.string { data := #[119, 104, 111, 108, 101] }, .string { data := #[] }, .int .i64 (k : Int), .int .i64 0, .int .i64 0, .int .i64 0] 41) = w5 ∧ Box w5 wr.heap.size [.string { data := #[119, 104, 111, 108, 101] }, .string { data := #[] }, .int .i64 (k : Int), .int .i64 0, .int .i64 0, .int .i64 0] ∧ Below wr.heap.size wr w5 := ⟨_, rfl, Box.new _ _ [.string { data := #[119, 104, 111, 108, 101] }, .string { data := #[] }, .int .i64 (k : Int), .int .i64 0, .int .i64 0, .int .i64 0], (Below.refl _ _).alloc (Nat.le_refl _) _⟩
          have HB5 := Lib.hid (below_step HB.out b5)
          have HW5 := Lib.hid hw5
          obtain ⟨r0, r1⟩ := box2 (PQ.on b5)
          have hsr := (PQ.on b5).1
          obtain ⟨y0, y1, y2, -, -, -⟩ := box6 YB
          have hsy := YB.1
          by_cases hq0 : q = 0
          · subst hq0
            obtain rfl : 0 = j := hj
            have hz : wr.cell? ⟨b, off, none⟩ = some (.int .u16 z) := hz
            have mx : max (-1 : Int) 0 = 0 := by decide
            simp only [Nat.zero_mul, Nat.add_zero] at c0 c1 c2 c3 c4 c5
            clear SQ hc3 hcj E1 E2 hw5 YB b5 PQ hzk hk
            go_upto_region 24 with fail
            rw [HW5.out]
            clear HW5
            go_wp2_with fail
            exact ⟨⟨0 + 1, hlt, rfl, HB5⟩, by simp [intOf]; omega⟩
          · obtain ⟨j2, hj2⟩ : ∃ j2, 2 * q = j2 := ⟨_, rfl⟩
            obtain ⟨j0, hj0⟩ : ∃ j0, 2 * q - 2 = j0 := ⟨_, rfl⟩
            have E2 := E2 (by omega)
            rw [hj0, hj, hj2] at E2
            have hjl2 : j2 < E.length := by rw [hmE]; omega
            have hcj2 := hc3 j2 hjl2
            rw [show E[j2] = _ from Option.some.inj ((List.getElem?_eq_getElem hjl2).symm.trans E2)] at hcj2
            have d0 : w5.cell? ⟨b3, off3 + j2 * 6, none⟩ = some (.string { data := #[43] }) := (b5.cell (by exact hs3)).trans (by simpa [exR] using hcj2 0 _ rfl)
            have d3 : w5.cell? ⟨b3, off3 + j2 * 6 + 3, none⟩ = some (.int .i64 (j0 : Int)) := (b5.cell (by exact hs3)).trans (hcj2 3 _ rfl)
            have d4 : w5.cell? ⟨b3, off3 + j2 * 6 + 4, none⟩ = some (.int .i64 (j : Int)) := (b5.cell (by exact hs3)).trans (hcj2 4 _ rfl)
            have i1 : 2 * (q : Int) = (j2 : Int) := by omega
            have i2 : (j2 : Int) - 1 = (j : Int) := by omega
            have i3 : (j2 : Int) - 2 = (j0 : Int) := by omega
            have l1 : (j : Int) < (m : Int) := by omega
            have l2 : (j2 : Int) < (m : Int) := by omega
            have q0 : (0 : Int) < (q : Int) := by omega
            have mx : max (j : Int) 0 = (j : Int) := by omega
            have n1 : ((j : Int) != (j : Int)) = false := bne_self_eq_false _
            have n2 : ((j0 : Int) != (j0 : Int)) = false := bne_self_eq_false _
            have hs5 := World.block_lt_of_cell? w5 _ d0
            clear SQ hc3 hcj hcj2 E1 E2 hw5 YB b5 PQ hzk hk hj hj2 hj0 hjl hjl2 hmE hq0
            go_upto_region 24 with fail
            rw [HW5.out]
            clear HW5
            go_wp2_with fail
            exact ⟨⟨q + 1, hlt, rfl, HB5⟩, by simp [intOf]; omega⟩
        · obtain rfl : q = t := by omega
          clear x0 x1 hsx PQ
          go_wp2_with fail
          refine (awake_any _).mono ?_
          rintro _ w6 ⟨rfl, b6⟩
          have B6 := Lib.hid (below_step BQ.out b6)
          clear b6
          go_wp2_with fail
          go_ret
          exact ⟨rfl, B6.out⟩
set_option maxHeartbeats 1600000 in
theorem tleft_none (A : Option Addr) (cap : Nat) (w : World) :
    Calls Tryd.prog 8 #[.slice A 0 cap] w fun e w' => e = .returned (.bool true) ∧ Below w.heap.size w w' := by
  go_enter Tryd.func8, Tryd.ntmps8
  go_wp2_with fail
  refine (awake_any _).mono ?_
  rintro _ w1 ⟨rfl, b⟩
  have B := Lib.hid b
  clear b
  go_wp2_with fail
  go_ret
  exact ⟨rfl, B.out⟩
set_option maxHeartbeats 1600000 in
theorem tleft_great (A : Option Addr) (len cap : Nat) (w : World) (h : 60 < len) :
    Calls Tryd.prog 8 #[.slice A len cap] w fun e w' => e = .returned (.bool true) ∧ Below w.heap.size w w' := by
  have g0 : ((len : Int) == 0) = false := by rw [beq_eq_false_iff_ne]; omega
  have g60 : (60 : Int) < (len : Int) := by omega
  clear h
  go_enter Tryd.func8, Tryd.ntmps8
  go_wp2_with fail
  refine (awake_any _).mono ?_
  rintro _ w1 ⟨rfl, b⟩
  have B := Lib.hid b
  clear b
  go_wp2_with fail
  go_ret
  exact ⟨rfl, B.out⟩
theorem tleft_walk (a : Option Addr) (len cap : Nat) (zs : List Int) (w : World) (hr : IsRow .u16 w a len cap zs) :
    Calls Tryd.prog 8 #[.slice a len cap] w fun e w' => e = .returned (.bool true) ∧ Below w.heap.size w w' := by
  by_cases h0 : len = 0
  · subst h0; exact tleft_none a cap w
  · by_cases h : 60 < len
    · exact tleft_great a len cap w h
    · exact tleft_small (slk_of_row hr) h0 (by omega)
end Go.Proofs.YtjcfgdldmgmiaaaDoor
