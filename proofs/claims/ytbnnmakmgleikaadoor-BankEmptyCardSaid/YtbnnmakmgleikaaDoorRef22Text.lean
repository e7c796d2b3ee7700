/-
  A file's text: what the reference of layer 22 answers.
-/
import Derived.Test.YtbnnmakmgleikaaDoorBkFile
import Derived.Test.YtbnnmakmgleikaaDoorRef22Wide
import Derived.Deep.RegionHeld3
import Derived.Deep.DeepCutAuto
set_option linter.unusedVariables false
set_option linter.unusedSimpArgs false
namespace Go.Proofs.YtbnnmakmgleikaaDoor
open Go.RowKit
open PBank (Pay)

theorem wide_pad {n d : Nat} {z dz : Int} (w : World) (hz : z = (n : Nat)) (hdz : dz = (d : Nat)) (hd : 0 < d) (hd2 : d ≤ 20) (hn : n < 10 ^ d) (hm : n ≤ 9223372036854775807) {t : List UInt8} (ht : PBank.pad d n = t) :
    Calls Tryd.prog 25 #[.int .i64 z, .int .i64 dz] w (TxtB t w) := by
  subst hz; subst hdz; rw [← ht]; exact r22wide_any w hd hd2 hn hm
theorem conv_byte (W : World) (H : Nat) {k : Int} (hk : k = 69 ∨ k = 67) (h : W.cell? ⟨H, 0, none⟩ = some (.int .u8 k)) : (convert 41 9 (.slice (some ⟨H, 0, none⟩) 1 1)).run Tryd.prog W = .ok (.string ⟨[UInt8.ofNat k.toNat].toArray⟩) W := by
  refine run_convert_bytes_back _ 41 9 5 ⟨H, 0, none⟩ 1 [UInt8.ofNat k.toNat] Tryd.underlying41 Tryd.underlying5 Tryd.underlying9 fun j hj => ?_
  rcases j with _ | j
  · rcases hk with rfl | rfl
    · exact h
    · exact h
  · simp at hj
set_option maxRecDepth 100000 in
set_option maxHeartbeats 12800000 in
theorem r22text_any {w : World} {per : Int} {A : Option Addr} {n c : Nat} {l : List Pay} (hS : SlX payR w A n l) (hn : (n : Int) ≤ 9223372036854775807) (hR : PBank.Rt per l) :
    Calls Tryd.prog 15 #[.agg #[.int .i64 per, .slice A n c]] w (TxtB (PBank.txt per l) w) := by
  obtain ⟨Q, hQ⟩ : ∃ Q, TxtB (PBank.txt per l) w = Q := ⟨_, rfl⟩
  rw [hQ]
  have FIN : Hid (∀ (w' : World), Below w.heap.size w w' → Q (.returned (.string ⟨(PBank.txt per l).toArray⟩)) w') := Lib.hid (fun w' a => by rw [← hQ]; exact ⟨rfl, a⟩)
  have hl : l.length = n := hS.1
  have hn5 : n ≤ 4999 := by rw [← hl]; exact hR.few
  obtain ⟨q, hq⟩ : ∃ q : Nat, per = q := ⟨per.toNat, by have := hR.lo; omega⟩
  have hqh : q ≤ 35999 := by have := hR.hi; omega
  obtain ⟨w1, hw1, XB, b1⟩ : ∃ w1, w.alloc (.cells #[.int .i64 per, .slice A n c] 32) = w1 ∧ Box w1 w.heap.size [.int .i64 per, .slice A n c] ∧ Below w.heap.size w w1 := ⟨_, rfl, Box.new _ _ [.int .i64 per, .slice A n c], (Below.refl _ _).alloc (Nat.le_refl _) _⟩
  obtain ⟨x0, x1⟩ := c2 XB
  have hsx := XB.1
  obtain ⟨t, ht⟩ : ∃ t, PBank.pad 5 q = t := ⟨_, rfl⟩
  have htl : t.length = 5 := by rw [← ht]; exact PBank.pad_len (by decide) (by have : (10 : Nat) ^ 5 = 100000 := rfl; omega)
  have CP := Lib.hid (fun wz => wide_pad (n := q) (d := 5) (z := per) (dz := 5) wz hq rfl (by decide) (by decide) (by have : (10 : Nat) ^ 5 = 100000 := rfl; omega) (by omega) ht)
  have HH : Hid (((({ data := #[72] } : ByteArray) ++ { data := t.toArray }) ++ { data := #[10] }) = ⟨(PBank.head per).toArray⟩) := Lib.hid (by
    have e : PBank.head per = [72] ++ t ++ [10] := by unfold PBank.head; rw [hq, Int.toNat_natCast, ht]; simp
    rw [e]
    exact (congrArg (· ++ _) (ByteArray.mk_append_mk [72] t)).trans (ByteArray.mk_append_mk _ [10]))
  have B1 := Lib.hid b1; have HW1 := Lib.hid hw1; have HS := Lib.hid (hS.on b1); have HXB := Lib.hid XB; have HRt := Lib.hid hR; have HL := Lib.hid hl
  clear hQ XB b1 hw1 hS hR hl ht hq
  go_enter Tryd.func15, Tryd.ntmps15
  go_upto_region 1 with fail
  rw [HW1.out]
  go_wp2_with (go_at_call 25; refine (CP.out _).mono ?_)
  intro e2 w2 h2
  obtain ⟨rfl, b2⟩ := h2
  have XB2 := HXB.out.on b2
  have B2 := Lib.hid b2
  obtain ⟨x0, x1⟩ := c2 XB2
  have hsx := XB2.1
  clear b2 XB2
  go_upto_region 3 with fail
  rw [HH.out]
  clear HH
  go_wp2_with fail
  clear x0 x1 hsx
  go_loopw [3, 4, 5] (fun s z i wx => ∃ k : Nat, i = .int .i64 k ∧ k ≤ n ∧ z = .int .i64 (PBank.sum (l.take k)) ∧ s = .string ⟨(PBank.head per ++ PBank.lines (l.take k)).toArray⟩ ∧ Hid (Below w1.heap.size w1 wx)) (fun _ _ i _ => n - (intOf i).toNat)
  case atStart => exact ⟨0, rfl, Nat.zero_le _, rfl, by simp [PBank.lines], B2⟩
  case round =>
    obtain ⟨k, rfl, hk, rfl, rfl, I2⟩ := hrel
    by_cases hlt : k < n
    · have gk : (k : Int) < (n : Int) := by omega
      obtain ⟨p, hp⟩ : ∃ p, l[k]? = some p := ⟨_, List.getElem?_eq_getElem (by rw [HL.out]; exact hlt)⟩
      have hok := HRt.out.mem (List.mem_of_getElem? hp)
      obtain ⟨h1, h2, h3, h4, h5⟩ := PBank.okP_iff.1 hok
      have htk : l.take (k + 1) = l.take k ++ [p] := by rw [List.take_add_one, hp]; rfl
      have hall : ∀ y ∈ l.take k, PBank.okP y = true := fun y hy => HRt.out.mem (List.mem_of_mem_take hy)
      have hsb := PBank.sum_bound hall
      have hln := PBank.lines_len hall
      have hkl : (l.take k).length = k := by rw [List.length_take, HL.out]; omega
      rw [hkl] at hsb hln
      have hhl := PBank.head_len HRt.out.lo HRt.out.hi
      obtain ⟨tx, htx⟩ : ∃ tx, PBank.head per ++ PBank.lines (l.take k) = tx := ⟨_, rfl⟩
      have txl : tx.length = 7 + 28 * k := by rw [← htx, List.length_append, hhl, hln]
      rw [htx]
      obtain ⟨x0, x1⟩ := c2 (HXB.out.on I2.out)
      have hsx := (HXB.out.on I2.out).1
      obtain ⟨b, o, rfl, -⟩ := (HS.out.on I2.out).at hlt
      obtain ⟨l0, l1, l2⟩ := pay_cell (HS.out.on I2.out) hlt hp
      have hsl := World.block_lt_of_cell? wr _ l0
      obtain ⟨w9, hw9, SB, b9⟩ : ∃ w9, wr.alloc (.cells #[.int .u8 0, .int .i64 0, .int .i64 0] 63) = w9 ∧ Box w9 wr.heap.size [.int .u8 0, .int .i64 0, .int .i64 0] ∧ Below wr.heap.size wr w9 := ⟨_, rfl, Box.new _ _ [.int .u8 0, .int .i64 0, .int .i64 0], (Below.refl _ _).alloc (Nat.le_refl _) _⟩
      obtain ⟨w10, hw10, X10, ON10⟩ := set3 SB (.int .u8 p.kind) (.int .i64 p.num) (.int .i64 p.amt)
      have b10 : Below wr.heap.size wr w10 := ON10.below (Nat.le_refl _) b9
      have B10 := Lib.hid (below_step I2.out b10)
      obtain ⟨s0, s1, s2⟩ := b3 SB
      obtain ⟨m0, m1, m2⟩ := f3 SB
      have hs9 := SB.1
      obtain ⟨u0, u1, u2⟩ := b3 X10
      have hs10 := X10.1
      have HW10 := Lib.hid hw10; have HX10 := Lib.hid X10
      have HTK := Lib.hid htk; have HSB := Lib.hid hsb; have HTX := Lib.hid htx
      obtain ⟨ta, hta⟩ : ∃ t, PBank.pad 10 p.num.toNat = t := ⟨_, rfl⟩
      obtain ⟨tm, htm⟩ : ∃ t, PBank.pad 16 p.amt.toNat = t := ⟨_, rfl⟩
      have tal : ta.length = 10 := by rw [← hta]; exact PBank.pad_len (by decide) (by have : (10 : Nat) ^ 10 = 10000000000 := rfl; omega)
      have tml : tm.length = 16 := by rw [← htm]; exact PBank.pad_len (by decide) (by have : (10 : Nat) ^ 16 = 10000000000000000 := rfl; omega)
      have CA := fun wz => wide_pad (z := p.num) (dz := 10) (d := 10) wz (by omega) rfl (by decide) (by decide) (by have : (10 : Nat) ^ 10 = 10000000000 := rfl; omega) (by omega) hta
      have CM := fun wz => wide_pad (z := p.amt) (dz := 16) (d := 16) wz (by omega) rfl (by decide) (by decide) (by have : (10 : Nat) ^ 16 = 10000000000000000 := rfl; omega) (by omega) htm
      have HLE : Hid (PBank.line p = UInt8.ofNat p.kind.toNat :: (ta ++ (tm ++ [10]))) := Lib.hid (by unfold PBank.line; rw [hta, htm])
      have HAM := Lib.hid (⟨h4, h5⟩ : _ ∧ _)
      have hkind : p.kind = 69 ∨ p.kind = 67 := h1
      clear SB X10 ON10 b9 b10 hw10 I2 hp htk hok hall hln hsb hkl htx hta htm hhl h1 h2 h3 h4 h5
      go_upto_region 7 with fail
      rw [HW10.out]
      clear HW10 hw9 s0 s1 s2 m0 m1 m2 hs9 l0 l1 l2 hsl x0 x1 hsx
      have BD := (Below.refl w10.heap.size w10).drew
      have Z0 : w10.drew.cell? ⟨wr.heap.size, 0, none⟩ = some (.int .u8 p.kind) ∧ w10.drew.cell? ⟨wr.heap.size, 1, none⟩ = some (.int .i64 p.num) ∧ w10.drew.cell? ⟨wr.heap.size, 2, none⟩ = some (.int .i64 p.amt) := ⟨u0, u1, u2⟩
      have NW : ∀ wz : World, (wz.alloc (.cells #[.int .u8 p.kind] 5)).cell? ⟨wz.heap.size, 0, none⟩ = some (.int .u8 p.kind) := fun wz => by go_simp
      have hcv := fun (wz : World) (H : Nat) (h : wz.cell? ⟨H, 0, none⟩ = some (.int .u8 p.kind)) => conv_byte wz H hkind h
      have BB0 : Below w10.heap.size w10 (w10.alloc (.cells #[.int .u8 p.kind] 5)).drew := ((Below.refl w10.heap.size w10).alloc (Nat.le_refl _) _).drew
      have ZB0 := keepB3 BB0 ⟨u0, u1, u2⟩
      have NB0 : (w10.alloc (.cells #[.int .u8 p.kind] 5)).drew.cell? ⟨w10.heap.size, 0, none⟩ = some (.int .u8 p.kind) := NW w10
      clear u0 u1 u2
      have HST : Hid (Value.string ({ data := tx.toArray } ++ { data := #[UInt8.ofNat p.kind.toNat] } ++ { data := ta.toArray } ++ { data := tm.toArray } ++ { data := #[10] }) = .string ⟨(tx ++ PBank.line p).toArray⟩) := Lib.hid (by
        rw [HLE.out]
        apply congrArg Value.string
        apply ByteArray.ext
        simp)
      have z1 : ¬ 9223372036854775807 < 7 + 28 * k + 1 := by omega
      have z2 : ¬ 9223372036854775807 < 7 + 28 * k + 1 + 10 := by omega
      have z3 : ¬ 9223372036854775807 < 7 + 28 * k + 1 + 10 + 16 := by omega
      have z4 : ¬ 9223372036854775807 < 7 + 28 * k + 1 + 10 + 16 + 1 := by omega
      go_cut [3] (fun s wx => s = .string ⟨(tx ++ PBank.line p).toArray⟩ ∧ Hid (Below w10.heap.size w10 wx))
      case first =>
        refine wp_region_held_drew (S := fun w' => w'.cell? ⟨wr.heap.size, 0, none⟩ = some (.int .u8 p.kind) ∧ w'.cell? ⟨wr.heap.size, 1, none⟩ = some (.int .i64 p.num) ∧ w'.cell? ⟨wr.heap.size, 2, none⟩ = some (.int .i64 p.amt)) (by kernel_rfl) Z0 (fun hHeld => ?_)
        refine wpAnyH_take (i := 0) (v := .string { data := tx.toArray }) rfl (by kernel_rfl) (by kernel_rfl) (by kernel_rfl) (fun _ _ _ h => h) (Or.inl ⟨by rfl, fun w hSw => by go_simp⟩) hHeld ?_
        try simp only [Act.put, List.getElem_toArray, List.getElem_cons_succ, List.getElem_cons_zero, List.setIfInBounds_toArray, List.set_cons_zero, List.set_cons_succ]
        refine wpAnyH_take (i := 1) (v := .pointer (some ⟨wr.heap.size, 0, none⟩)) rfl (by kernel_rfl) (by kernel_rfl) (by kernel_rfl) (fun _ _ _ h => h) (Or.inl ⟨by rfl, fun w hSw => by go_simp⟩) hHeld ?_
        try simp only [Act.put, List.getElem_toArray, List.getElem_cons_succ, List.getElem_cons_zero, List.setIfInBounds_toArray, List.set_cons_zero, List.set_cons_succ]
        refine wpAnyH_take (i := 2) (v := .int .u8 p.kind) rfl (by kernel_rfl) (by kernel_rfl) (by kernel_rfl) (fun _ _ _ h => h) (Or.inl ⟨by rfl, fun w hSw => by obtain ⟨a0, a1, a2⟩ := hSw; go_simp⟩) hHeld ?_
        try simp only [Act.put, List.getElem_toArray, List.getElem_cons_succ, List.getElem_cons_zero, List.setIfInBounds_toArray, List.set_cons_zero, List.set_cons_succ]
        refine wpAnyH_take (i := 6) (v := .pointer (some ⟨wr.heap.size, 1, none⟩)) rfl (by kernel_rfl) (by kernel_rfl) (by kernel_rfl) (fun _ _ _ h => h) (Or.inl ⟨by rfl, fun w hSw => by go_simp⟩) hHeld ?_
        try simp only [Act.put, List.getElem_toArray, List.getElem_cons_succ, List.getElem_cons_zero, List.setIfInBounds_toArray, List.set_cons_zero, List.set_cons_succ]
        refine wpAnyH_take (i := 7) (v := .int .i64 p.num) rfl (by kernel_rfl) (by kernel_rfl) (by kernel_rfl) (fun _ _ _ h => h) (Or.inl ⟨by rfl, fun w hSw => by obtain ⟨a0, a1, a2⟩ := hSw; go_simp⟩) hHeld ?_
        try simp only [Act.put, List.getElem_toArray, List.getElem_cons_succ, List.getElem_cons_zero, List.setIfInBounds_toArray, List.set_cons_zero, List.set_cons_succ]
        refine wpAnyH_take (i := 10) (v := .pointer (some ⟨wr.heap.size, 2, none⟩)) rfl (by kernel_rfl) (by kernel_rfl) (by kernel_rfl) (fun _ _ _ h => h) (Or.inl ⟨by rfl, fun w hSw => by go_simp⟩) hHeld ?_
        try simp only [Act.put, List.getElem_toArray, List.getElem_cons_succ, List.getElem_cons_zero, List.setIfInBounds_toArray, List.set_cons_zero, List.set_cons_succ]
        refine wpAnyH_take (i := 11) (v := .int .i64 p.amt) rfl (by kernel_rfl) (by kernel_rfl) (by kernel_rfl) (fun _ _ _ h => h) (Or.inl ⟨by rfl, fun w hSw => by obtain ⟨a0, a1, a2⟩ := hSw; go_simp⟩) hHeld ?_
        try simp only [Act.put, List.getElem_toArray, List.getElem_cons_succ, List.getElem_cons_zero, List.setIfInBounds_toArray, List.set_cons_zero, List.set_cons_succ]
        refine wpAnyH_ready (rs := [3, 8]) (by kernel_rfl) (by simp) ?_
        refine (AllReadyH.cons rfl (fun K hK => ?_) (AllReadyH.cons rfl (fun K hK => ?_) AllReadyH.nil))
        · go_simp
          refine hK.out _ _ ZB0 (fun hHeld => ?_)
          clear hK K
          try simp only [Act.put, List.getElem_toArray, List.getElem_cons_succ, List.getElem_cons_zero, List.setIfInBounds_toArray, List.set_cons_zero, List.set_cons_succ]
          refine wpAnyH_ready (rs := [4, 8]) (by kernel_rfl) (by simp) ?_
          refine (AllReadyH.cons rfl (fun K hK => ?_) (AllReadyH.cons rfl (fun K hK => ?_) AllReadyH.nil))
          · have hc := hcv _ _ NB0
            go_simp
            refine hK.out _ _ ZB0 (fun hHeld => ?_)
            clear hK K
            try simp only [Act.put, List.getElem_toArray, List.getElem_cons_succ, List.getElem_cons_zero, List.setIfInBounds_toArray, List.set_cons_zero, List.set_cons_succ]
            refine wpAnyH_take (i := 5) (v := .string ({ data := tx.toArray } ++ { data := #[UInt8.ofNat p.kind.toNat] } : ByteArray)) rfl (by kernel_rfl) (by kernel_rfl) (by kernel_rfl) (fun _ _ _ h => h) (Or.inl ⟨by rfl, fun w hSw => by go_simp⟩) hHeld ?_
            try simp only [Act.put, List.getElem_toArray, List.getElem_cons_succ, List.getElem_cons_zero, List.setIfInBounds_toArray, List.set_cons_zero, List.set_cons_succ]
            refine wpAnyH_ready (rs := [8]) (by kernel_rfl) (by simp) ?_
            refine (AllReadyH.cons rfl (fun K hK => ?_) AllReadyH.nil)
            · go_simp
              refine (CA _).mono ?_
              rintro _ w11 ⟨rfl, b11⟩
              have Z11 := keepB3 b11 ZB0
              have C11 := cell_keep b11 NB0
              have Y11 := below_step BB0 b11
              refine hK.out _ _ Z11 (fun hHeld => ?_)
              clear hK K
              try simp only [Act.put, List.getElem_toArray, List.getElem_cons_succ, List.getElem_cons_zero, List.setIfInBounds_toArray, List.set_cons_zero, List.set_cons_succ]
              refine wpAnyH_take (i := 9) (v := .string (({ data := tx.toArray } ++ { data := #[UInt8.ofNat p.kind.toNat] } : ByteArray) ++ { data := ta.toArray } : ByteArray)) rfl (by kernel_rfl) (by kernel_rfl) (by kernel_rfl) (fun _ _ _ h => h) (Or.inl ⟨by rfl, fun w hSw => by go_simp⟩) hHeld ?_
              try simp only [Act.put, List.getElem_toArray, List.getElem_cons_succ, List.getElem_cons_zero, List.setIfInBounds_toArray, List.set_cons_zero, List.set_cons_succ]
              refine wpAnyH_ready (rs := [12]) (by kernel_rfl) (by simp) ?_
              refine (AllReadyH.cons rfl (fun K hK => ?_) AllReadyH.nil)
              · go_simp
                refine (CM _).mono ?_
                rintro _ w12 ⟨rfl, b12⟩
                have Z12 := keepB3 b12 Z11
                have C12 := cell_keep b12 C11
                have Y12 := below_step Y11 b12
                refine hK.out _ _ Z12 (fun hHeld => ?_)
                clear hK K
                try simp only [Act.put, List.getElem_toArray, List.getElem_cons_succ, List.getElem_cons_zero, List.setIfInBounds_toArray, List.set_cons_zero, List.set_cons_succ]
                refine wpAnyH_take (i := 13) (v := .string ((({ data := tx.toArray } ++ { data := #[UInt8.ofNat p.kind.toNat] } : ByteArray) ++ { data := ta.toArray } : ByteArray) ++ { data := tm.toArray } : ByteArray)) rfl (by kernel_rfl) (by kernel_rfl) (by kernel_rfl) (fun _ _ _ h => h) (Or.inl ⟨by rfl, fun w hSw => by go_simp⟩) hHeld ?_
                try simp only [Act.put, List.getElem_toArray, List.getElem_cons_succ, List.getElem_cons_zero, List.setIfInBounds_toArray, List.set_cons_zero, List.set_cons_succ]
                refine wpAnyH_take (i := 14) (v := .string (((({ data := tx.toArray } ++ { data := #[UInt8.ofNat p.kind.toNat] } : ByteArray) ++ { data := ta.toArray } : ByteArray) ++ { data := tm.toArray } : ByteArray) ++ { data := #[10] } : ByteArray)) rfl (by kernel_rfl) (by kernel_rfl) (by kernel_rfl) (fun _ _ _ h => h) (Or.inl ⟨by rfl, fun w hSw => by go_simp⟩) hHeld ?_
                try simp only [Act.put, List.getElem_toArray, List.getElem_cons_succ, List.getElem_cons_zero, List.setIfInBounds_toArray, List.set_cons_zero, List.set_cons_succ]
                refine wpAnyH_take (i := 15) (v := .string (((({ data := tx.toArray } ++ { data := #[UInt8.ofNat p.kind.toNat] } : ByteArray) ++ { data := ta.toArray } : ByteArray) ++ { data := tm.toArray } : ByteArray) ++ { data := #[10] } : ByteArray)) rfl (by kernel_rfl) (by kernel_rfl) (by kernel_rfl) (fun _ _ _ h => h) (Or.inl ⟨by rfl, fun w hSw => by go_simp⟩) hHeld ?_
                try simp only [Act.put, List.getElem_toArray, List.getElem_cons_succ, List.getElem_cons_zero, List.setIfInBounds_toArray, List.set_cons_zero, List.set_cons_succ]
                refine wpAnyH_done (by kernel_rfl) ?_ _
                have YY := Lib.hid Y12
                clear hHeld
                go_wp2_with fail
                go_meet
                exact ⟨HST.out, YY⟩
          · go_simp
            refine (CA _).mono ?_
            rintro _ w11 ⟨rfl, b11⟩
            have Z11 := keepB3 b11 ZB0
            have C11 := cell_keep b11 NB0
            have Y11 := below_step BB0 b11
            refine hK.out _ _ Z11 (fun hHeld => ?_)
            clear hK K
            try simp only [Act.put, List.getElem_toArray, List.getElem_cons_succ, List.getElem_cons_zero, List.setIfInBounds_toArray, List.set_cons_zero, List.set_cons_succ]
            refine wpAnyH_ready (rs := [4, 12]) (by kernel_rfl) (by simp) ?_
            refine (AllReadyH.cons rfl (fun K hK => ?_) (AllReadyH.cons rfl (fun K hK => ?_) AllReadyH.nil))
            · have hc := hcv _ _ C11
              go_simp
              refine hK.out _ _ Z11 (fun hHeld => ?_)
              clear hK K
              try simp only [Act.put, List.getElem_toArray, List.getElem_cons_succ, List.getElem_cons_zero, List.setIfInBounds_toArray, List.set_cons_zero, List.set_cons_succ]
              refine wpAnyH_take (i := 5) (v := .string ({ data := tx.toArray } ++ { data := #[UInt8.ofNat p.kind.toNat] } : ByteArray)) rfl (by kernel_rfl) (by kernel_rfl) (by kernel_rfl) (fun _ _ _ h => h) (Or.inl ⟨by rfl, fun w hSw => by go_simp⟩) hHeld ?_
              try simp only [Act.put, List.getElem_toArray, List.getElem_cons_succ, List.getElem_cons_zero, List.setIfInBounds_toArray, List.set_cons_zero, List.set_cons_succ]
              refine wpAnyH_take (i := 9) (v := .string (({ data := tx.toArray } ++ { data := #[UInt8.ofNat p.kind.toNat] } : ByteArray) ++ { data := ta.toArray } : ByteArray)) rfl (by kernel_rfl) (by kernel_rfl) (by kernel_rfl) (fun _ _ _ h => h) (Or.inl ⟨by rfl, fun w hSw => by go_simp⟩) hHeld ?_
              try simp only [Act.put, List.getElem_toArray, List.getElem_cons_succ, List.getElem_cons_zero, List.setIfInBounds_toArray, List.set_cons_zero, List.set_cons_succ]
              refine wpAnyH_ready (rs := [12]) (by kernel_rfl) (by simp) ?_
              refine (AllReadyH.cons rfl (fun K hK => ?_) AllReadyH.nil)
              · go_simp
                refine (CM _).mono ?_
                rintro _ w12 ⟨rfl, b12⟩
                have Z12 := keepB3 b12 Z11
                have C12 := cell_keep b12 C11
                have Y12 := below_step Y11 b12
                refine hK.out _ _ Z12 (fun hHeld => ?_)
                clear hK K
                try simp only [Act.put, List.getElem_toArray, List.getElem_cons_succ, List.getElem_cons_zero, List.setIfInBounds_toArray, List.set_cons_zero, List.set_cons_succ]
                refine wpAnyH_take (i := 13) (v := .string ((({ data := tx.toArray } ++ { data := #[UInt8.ofNat p.kind.toNat] } : ByteArray) ++ { data := ta.toArray } : ByteArray) ++ { data := tm.toArray } : ByteArray)) rfl (by kernel_rfl) (by kernel_rfl) (by kernel_rfl) (fun _ _ _ h => h) (Or.inl ⟨by rfl, fun w hSw => by go_simp⟩) hHeld ?_
                try simp only [Act.put, List.getElem_toArray, List.getElem_cons_succ, List.getElem_cons_zero, List.setIfInBounds_toArray, List.set_cons_zero, List.set_cons_succ]
                refine wpAnyH_take (i := 14) (v := .string (((({ data := tx.toArray } ++ { data := #[UInt8.ofNat p.kind.toNat] } : ByteArray) ++ { data := ta.toArray } : ByteArray) ++ { data := tm.toArray } : ByteArray) ++ { data := #[10] } : ByteArray)) rfl (by kernel_rfl) (by kernel_rfl) (by kernel_rfl) (fun _ _ _ h => h) (Or.inl ⟨by rfl, fun w hSw => by go_simp⟩) hHeld ?_
                try simp only [Act.put, List.getElem_toArray, List.getElem_cons_succ, List.getElem_cons_zero, List.setIfInBounds_toArray, List.set_cons_zero, List.set_cons_succ]
                refine wpAnyH_take (i := 15) (v := .string (((({ data := tx.toArray } ++ { data := #[UInt8.ofNat p.kind.toNat] } : ByteArray) ++ { data := ta.toArray } : ByteArray) ++ { data := tm.toArray } : ByteArray) ++ { data := #[10] } : ByteArray)) rfl (by kernel_rfl) (by kernel_rfl) (by kernel_rfl) (fun _ _ _ h => h) (Or.inl ⟨by rfl, fun w hSw => by go_simp⟩) hHeld ?_
                try simp only [Act.put, List.getElem_toArray, List.getElem_cons_succ, List.getElem_cons_zero, List.setIfInBounds_toArray, List.set_cons_zero, List.set_cons_succ]
                refine wpAnyH_done (by kernel_rfl) ?_ _
                have YY := Lib.hid Y12
                clear hHeld
                go_wp2_with fail
                go_meet
                exact ⟨HST.out, YY⟩
            · go_simp
              refine (CM _).mono ?_
              rintro _ w12 ⟨rfl, b12⟩
              have Z12 := keepB3 b12 Z11
              have C12 := cell_keep b12 C11
              have Y12 := below_step Y11 b12
              refine hK.out _ _ Z12 (fun hHeld => ?_)
              clear hK K
              try simp only [Act.put, List.getElem_toArray, List.getElem_cons_succ, List.getElem_cons_zero, List.setIfInBounds_toArray, List.set_cons_zero, List.set_cons_succ]
              refine wpAnyH_ready (rs := [4]) (by kernel_rfl) (by simp) ?_
              refine (AllReadyH.cons rfl (fun K hK => ?_) AllReadyH.nil)
              · have hc := hcv _ _ C12
                go_simp
                refine hK.out _ _ Z12 (fun hHeld => ?_)
                clear hK K
                try simp only [Act.put, List.getElem_toArray, List.getElem_cons_succ, List.getElem_cons_zero, List.setIfInBounds_toArray, List.set_cons_zero, List.set_cons_succ]
                refine wpAnyH_take (i := 5) (v := .string ({ data := tx.toArray } ++ { data := #[UInt8.ofNat p.kind.toNat] } : ByteArray)) rfl (by kernel_rfl) (by kernel_rfl) (by kernel_rfl) (fun _ _ _ h => h) (Or.inl ⟨by rfl, fun w hSw => by go_simp⟩) hHeld ?_
                try simp only [Act.put, List.getElem_toArray, List.getElem_cons_succ, List.getElem_cons_zero, List.setIfInBounds_toArray, List.set_cons_zero, List.set_cons_succ]
                refine wpAnyH_take (i := 9) (v := .string (({ data := tx.toArray } ++ { data := #[UInt8.ofNat p.kind.toNat] } : ByteArray) ++ { data := ta.toArray } : ByteArray)) rfl (by kernel_rfl) (by kernel_rfl) (by kernel_rfl) (fun _ _ _ h => h) (Or.inl ⟨by rfl, fun w hSw => by go_simp⟩) hHeld ?_
                try simp only [Act.put, List.getElem_toArray, List.getElem_cons_succ, List.getElem_cons_zero, List.setIfInBounds_toArray, List.set_cons_zero, List.set_cons_succ]
                refine wpAnyH_take (i := 13) (v := .string ((({ data := tx.toArray } ++ { data := #[UInt8.ofNat p.kind.toNat] } : ByteArray) ++ { data := ta.toArray } : ByteArray) ++ { data := tm.toArray } : ByteArray)) rfl (by kernel_rfl) (by kernel_rfl) (by kernel_rfl) (fun _ _ _ h => h) (Or.inl ⟨by rfl, fun w hSw => by go_simp⟩) hHeld ?_
                try simp only [Act.put, List.getElem_toArray, List.getElem_cons_succ, List.getElem_cons_zero, List.setIfInBounds_toArray, List.set_cons_zero, List.set_cons_succ]
                refine wpAnyH_take (i := 14) (v := .string (((({ data := tx.toArray } ++ { data := #[UInt8.ofNat p.kind.toNat] } : ByteArray) ++ { data := ta.toArray } : ByteArray) ++ { data := tm.toArray } : ByteArray) ++ { data := #[10] } : ByteArray)) rfl (by kernel_rfl) (by kernel_rfl) (by kernel_rfl) (fun _ _ _ h => h) (Or.inl ⟨by rfl, fun w hSw => by go_simp⟩) hHeld ?_
                try simp only [Act.put, List.getElem_toArray, List.getElem_cons_succ, List.getElem_cons_zero, List.setIfInBounds_toArray, List.set_cons_zero, List.set_cons_succ]
                refine wpAnyH_take (i := 15) (v := .string (((({ data := tx.toArray } ++ { data := #[UInt8.ofNat p.kind.toNat] } : ByteArray) ++ { data := ta.toArray } : ByteArray) ++ { data := tm.toArray } : ByteArray) ++ { data := #[10] } : ByteArray)) rfl (by kernel_rfl) (by kernel_rfl) (by kernel_rfl) (fun _ _ _ h => h) (Or.inl ⟨by rfl, fun w hSw => by go_simp⟩) hHeld ?_
                try simp only [Act.put, List.getElem_toArray, List.getElem_cons_succ, List.getElem_cons_zero, List.setIfInBounds_toArray, List.set_cons_zero, List.set_cons_succ]
                refine wpAnyH_done (by kernel_rfl) ?_ _
                have YY := Lib.hid Y12
                clear hHeld
                go_wp2_with fail
                go_meet
                exact ⟨HST.out, YY⟩
        · go_simp
          refine (CA _).mono ?_
          rintro _ w11 ⟨rfl, b11⟩
          have Z11 := keepB3 b11 Z0
          have Y11 := below_step BD b11
          refine hK.out _ _ Z11 (fun hHeld => ?_)
          clear hK K
          try simp only [Act.put, List.getElem_toArray, List.getElem_cons_succ, List.getElem_cons_zero, List.setIfInBounds_toArray, List.set_cons_zero, List.set_cons_succ]
          refine wpAnyH_ready (rs := [3, 12]) (by kernel_rfl) (by simp) ?_
          refine (AllReadyH.cons rfl (fun K hK => ?_) (AllReadyH.cons rfl (fun K hK => ?_) AllReadyH.nil))
          · go_simp
            refine hK.out _ _ (keepB3 ((Below.refl w11.heap.size w11).alloc (Nat.le_refl _) (.cells #[.int .u8 p.kind] 5)) Z11) (fun hHeld => ?_)
            clear hK K
            try simp only [Act.put, List.getElem_toArray, List.getElem_cons_succ, List.getElem_cons_zero, List.setIfInBounds_toArray, List.set_cons_zero, List.set_cons_succ]
            refine wpAnyH_ready (rs := [4, 12]) (by kernel_rfl) (by simp) ?_
            refine (AllReadyH.cons rfl (fun K hK => ?_) (AllReadyH.cons rfl (fun K hK => ?_) AllReadyH.nil))
            · have hc := hcv _ _ (NW w11)
              go_simp
              refine hK.out _ _ (keepB3 ((Below.refl w11.heap.size w11).alloc (Nat.le_refl _) (.cells #[.int .u8 p.kind] 5)) Z11) (fun hHeld => ?_)
              clear hK K
              try simp only [Act.put, List.getElem_toArray, List.getElem_cons_succ, List.getElem_cons_zero, List.setIfInBounds_toArray, List.set_cons_zero, List.set_cons_succ]
              refine wpAnyH_take (i := 5) (v := .string ({ data := tx.toArray } ++ { data := #[UInt8.ofNat p.kind.toNat] } : ByteArray)) rfl (by kernel_rfl) (by kernel_rfl) (by kernel_rfl) (fun _ _ _ h => h) (Or.inl ⟨by rfl, fun w hSw => by go_simp⟩) hHeld ?_
              try simp only [Act.put, List.getElem_toArray, List.getElem_cons_succ, List.getElem_cons_zero, List.setIfInBounds_toArray, List.set_cons_zero, List.set_cons_succ]
              refine wpAnyH_take (i := 9) (v := .string (({ data := tx.toArray } ++ { data := #[UInt8.ofNat p.kind.toNat] } : ByteArray) ++ { data := ta.toArray } : ByteArray)) rfl (by kernel_rfl) (by kernel_rfl) (by kernel_rfl) (fun _ _ _ h => h) (Or.inl ⟨by rfl, fun w hSw => by go_simp⟩) hHeld ?_
              try simp only [Act.put, List.getElem_toArray, List.getElem_cons_succ, List.getElem_cons_zero, List.setIfInBounds_toArray, List.set_cons_zero, List.set_cons_succ]
              refine wpAnyH_ready (rs := [12]) (by kernel_rfl) (by simp) ?_
              refine (AllReadyH.cons rfl (fun K hK => ?_) AllReadyH.nil)
              · go_simp
                refine (CM _).mono ?_
                rintro _ w12 ⟨rfl, b12⟩
                have Z12 := keepB3 b12 (keepB3 ((Below.refl w11.heap.size w11).alloc (Nat.le_refl _) (.cells #[.int .u8 p.kind] 5)) Z11)
                have C12 := cell_keep b12 (NW w11)
                have Y12 := below_step (Y11.alloc Y11.size (.cells #[.int .u8 p.kind] 5)) b12
                refine hK.out _ _ Z12 (fun hHeld => ?_)
                clear hK K
                try simp only [Act.put, List.getElem_toArray, List.getElem_cons_succ, List.getElem_cons_zero, List.setIfInBounds_toArray, List.set_cons_zero, List.set_cons_succ]
                refine wpAnyH_take (i := 13) (v := .string ((({ data := tx.toArray } ++ { data := #[UInt8.ofNat p.kind.toNat] } : ByteArray) ++ { data := ta.toArray } : ByteArray) ++ { data := tm.toArray } : ByteArray)) rfl (by kernel_rfl) (by kernel_rfl) (by kernel_rfl) (fun _ _ _ h => h) (Or.inl ⟨by rfl, fun w hSw => by go_simp⟩) hHeld ?_
                try simp only [Act.put, List.getElem_toArray, List.getElem_cons_succ, List.getElem_cons_zero, List.setIfInBounds_toArray, List.set_cons_zero, List.set_cons_succ]
                refine wpAnyH_take (i := 14) (v := .string (((({ data := tx.toArray } ++ { data := #[UInt8.ofNat p.kind.toNat] } : ByteArray) ++ { data := ta.toArray } : ByteArray) ++ { data := tm.toArray } : ByteArray) ++ { data := #[10] } : ByteArray)) rfl (by kernel_rfl) (by kernel_rfl) (by kernel_rfl) (fun _ _ _ h => h) (Or.inl ⟨by rfl, fun w hSw => by go_simp⟩) hHeld ?_
                try simp only [Act.put, List.getElem_toArray, List.getElem_cons_succ, List.getElem_cons_zero, List.setIfInBounds_toArray, List.set_cons_zero, List.set_cons_succ]
                refine wpAnyH_take (i := 15) (v := .string (((({ data := tx.toArray } ++ { data := #[UInt8.ofNat p.kind.toNat] } : ByteArray) ++ { data := ta.toArray } : ByteArray) ++ { data := tm.toArray } : ByteArray) ++ { data := #[10] } : ByteArray)) rfl (by kernel_rfl) (by kernel_rfl) (by kernel_rfl) (fun _ _ _ h => h) (Or.inl ⟨by rfl, fun w hSw => by go_simp⟩) hHeld ?_
                try simp only [Act.put, List.getElem_toArray, List.getElem_cons_succ, List.getElem_cons_zero, List.setIfInBounds_toArray, List.set_cons_zero, List.set_cons_succ]
                refine wpAnyH_done (by kernel_rfl) ?_ _
                have YY := Lib.hid Y12
                clear hHeld
                go_wp2_with fail
                go_meet
                exact ⟨HST.out, YY⟩
            · go_simp
              refine (CM _).mono ?_
              rintro _ w12 ⟨rfl, b12⟩
              have Z12 := keepB3 b12 (keepB3 ((Below.refl w11.heap.size w11).alloc (Nat.le_refl _) (.cells #[.int .u8 p.kind] 5)) Z11)
              have C12 := cell_keep b12 (NW w11)
              have Y12 := below_step (Y11.alloc Y11.size (.cells #[.int .u8 p.kind] 5)) b12
              refine hK.out _ _ Z12 (fun hHeld => ?_)
              clear hK K
              try simp only [Act.put, List.getElem_toArray, List.getElem_cons_succ, List.getElem_cons_zero, List.setIfInBounds_toArray, List.set_cons_zero, List.set_cons_succ]
              refine wpAnyH_ready (rs := [4]) (by kernel_rfl) (by simp) ?_
              refine (AllReadyH.cons rfl (fun K hK => ?_) AllReadyH.nil)
              · have hc := hcv _ _ C12
                go_simp
                refine hK.out _ _ Z12 (fun hHeld => ?_)
                clear hK K
                try simp only [Act.put, List.getElem_toArray, List.getElem_cons_succ, List.getElem_cons_zero, List.setIfInBounds_toArray, List.set_cons_zero, List.set_cons_succ]
                refine wpAnyH_take (i := 5) (v := .string ({ data := tx.toArray } ++ { data := #[UInt8.ofNat p.kind.toNat] } : ByteArray)) rfl (by kernel_rfl) (by kernel_rfl) (by kernel_rfl) (fun _ _ _ h => h) (Or.inl ⟨by rfl, fun w hSw => by go_simp⟩) hHeld ?_
                try simp only [Act.put, List.getElem_toArray, List.getElem_cons_succ, List.getElem_cons_zero, List.setIfInBounds_toArray, List.set_cons_zero, List.set_cons_succ]
                refine wpAnyH_take (i := 9) (v := .string (({ data := tx.toArray } ++ { data := #[UInt8.ofNat p.kind.toNat] } : ByteArray) ++ { data := ta.toArray } : ByteArray)) rfl (by kernel_rfl) (by kernel_rfl) (by kernel_rfl) (fun _ _ _ h => h) (Or.inl ⟨by rfl, fun w hSw => by go_simp⟩) hHeld ?_
                try simp only [Act.put, List.getElem_toArray, List.getElem_cons_succ, List.getElem_cons_zero, List.setIfInBounds_toArray, List.set_cons_zero, List.set_cons_succ]
                refine wpAnyH_take (i := 13) (v := .string ((({ data := tx.toArray } ++ { data := #[UInt8.ofNat p.kind.toNat] } : ByteArray) ++ { data := ta.toArray } : ByteArray) ++ { data := tm.toArray } : ByteArray)) rfl (by kernel_rfl) (by kernel_rfl) (by kernel_rfl) (fun _ _ _ h => h) (Or.inl ⟨by rfl, fun w hSw => by go_simp⟩) hHeld ?_
                try simp only [Act.put, List.getElem_toArray, List.getElem_cons_succ, List.getElem_cons_zero, List.setIfInBounds_toArray, List.set_cons_zero, List.set_cons_succ]
                refine wpAnyH_take (i := 14) (v := .string (((({ data := tx.toArray } ++ { data := #[UInt8.ofNat p.kind.toNat] } : ByteArray) ++ { data := ta.toArray } : ByteArray) ++ { data := tm.toArray } : ByteArray) ++ { data := #[10] } : ByteArray)) rfl (by kernel_rfl) (by kernel_rfl) (by kernel_rfl) (fun _ _ _ h => h) (Or.inl ⟨by rfl, fun w hSw => by go_simp⟩) hHeld ?_
                try simp only [Act.put, List.getElem_toArray, List.getElem_cons_succ, List.getElem_cons_zero, List.setIfInBounds_toArray, List.set_cons_zero, List.set_cons_succ]
                refine wpAnyH_take (i := 15) (v := .string (((({ data := tx.toArray } ++ { data := #[UInt8.ofNat p.kind.toNat] } : ByteArray) ++ { data := ta.toArray } : ByteArray) ++ { data := tm.toArray } : ByteArray) ++ { data := #[10] } : ByteArray)) rfl (by kernel_rfl) (by kernel_rfl) (by kernel_rfl) (fun _ _ _ h => h) (Or.inl ⟨by rfl, fun w hSw => by go_simp⟩) hHeld ?_
                try simp only [Act.put, List.getElem_toArray, List.getElem_cons_succ, List.getElem_cons_zero, List.setIfInBounds_toArray, List.set_cons_zero, List.set_cons_succ]
                refine wpAnyH_done (by kernel_rfl) ?_ _
                have YY := Lib.hid Y12
                clear hHeld
                go_wp2_with fail
                go_meet
                exact ⟨HST.out, YY⟩
          · go_simp
            refine (CM _).mono ?_
            rintro _ w12 ⟨rfl, b12⟩
            have Z12 := keepB3 b12 Z11
            have Y12 := below_step Y11 b12
            refine hK.out _ _ Z12 (fun hHeld => ?_)
            clear hK K
            try simp only [Act.put, List.getElem_toArray, List.getElem_cons_succ, List.getElem_cons_zero, List.setIfInBounds_toArray, List.set_cons_zero, List.set_cons_succ]
            refine wpAnyH_ready (rs := [3]) (by kernel_rfl) (by simp) ?_
            refine (AllReadyH.cons rfl (fun K hK => ?_) AllReadyH.nil)
            · go_simp
              refine hK.out _ _ (keepB3 ((Below.refl w12.heap.size w12).alloc (Nat.le_refl _) (.cells #[.int .u8 p.kind] 5)) Z12) (fun hHeld => ?_)
              clear hK K
              try simp only [Act.put, List.getElem_toArray, List.getElem_cons_succ, List.getElem_cons_zero, List.setIfInBounds_toArray, List.set_cons_zero, List.set_cons_succ]
              refine wpAnyH_ready (rs := [4]) (by kernel_rfl) (by simp) ?_
              refine (AllReadyH.cons rfl (fun K hK => ?_) AllReadyH.nil)
              · have hc := hcv _ _ (NW w12)
                go_simp
                refine hK.out _ _ (keepB3 ((Below.refl w12.heap.size w12).alloc (Nat.le_refl _) (.cells #[.int .u8 p.kind] 5)) Z12) (fun hHeld => ?_)
                clear hK K
                try simp only [Act.put, List.getElem_toArray, List.getElem_cons_succ, List.getElem_cons_zero, List.setIfInBounds_toArray, List.set_cons_zero, List.set_cons_succ]
                refine wpAnyH_take (i := 5) (v := .string ({ data := tx.toArray } ++ { data := #[UInt8.ofNat p.kind.toNat] } : ByteArray)) rfl (by kernel_rfl) (by kernel_rfl) (by kernel_rfl) (fun _ _ _ h => h) (Or.inl ⟨by rfl, fun w hSw => by go_simp⟩) hHeld ?_
                try simp only [Act.put, List.getElem_toArray, List.getElem_cons_succ, List.getElem_cons_zero, List.setIfInBounds_toArray, List.set_cons_zero, List.set_cons_succ]
                refine wpAnyH_take (i := 9) (v := .string (({ data := tx.toArray } ++ { data := #[UInt8.ofNat p.kind.toNat] } : ByteArray) ++ { data := ta.toArray } : ByteArray)) rfl (by kernel_rfl) (by kernel_rfl) (by kernel_rfl) (fun _ _ _ h => h) (Or.inl ⟨by rfl, fun w hSw => by go_simp⟩) hHeld ?_
                try simp only [Act.put, List.getElem_toArray, List.getElem_cons_succ, List.getElem_cons_zero, List.setIfInBounds_toArray, List.set_cons_zero, List.set_cons_succ]
                refine wpAnyH_take (i := 13) (v := .string ((({ data := tx.toArray } ++ { data := #[UInt8.ofNat p.kind.toNat] } : ByteArray) ++ { data := ta.toArray } : ByteArray) ++ { data := tm.toArray } : ByteArray)) rfl (by kernel_rfl) (by kernel_rfl) (by kernel_rfl) (fun _ _ _ h => h) (Or.inl ⟨by rfl, fun w hSw => by go_simp⟩) hHeld ?_
                try simp only [Act.put, List.getElem_toArray, List.getElem_cons_succ, List.getElem_cons_zero, List.setIfInBounds_toArray, List.set_cons_zero, List.set_cons_succ]
                refine wpAnyH_take (i := 14) (v := .string (((({ data := tx.toArray } ++ { data := #[UInt8.ofNat p.kind.toNat] } : ByteArray) ++ { data := ta.toArray } : ByteArray) ++ { data := tm.toArray } : ByteArray) ++ { data := #[10] } : ByteArray)) rfl (by kernel_rfl) (by kernel_rfl) (by kernel_rfl) (fun _ _ _ h => h) (Or.inl ⟨by rfl, fun w hSw => by go_simp⟩) hHeld ?_
                try simp only [Act.put, List.getElem_toArray, List.getElem_cons_succ, List.getElem_cons_zero, List.setIfInBounds_toArray, List.set_cons_zero, List.set_cons_succ]
                refine wpAnyH_take (i := 15) (v := .string (((({ data := tx.toArray } ++ { data := #[UInt8.ofNat p.kind.toNat] } : ByteArray) ++ { data := ta.toArray } : ByteArray) ++ { data := tm.toArray } : ByteArray) ++ { data := #[10] } : ByteArray)) rfl (by kernel_rfl) (by kernel_rfl) (by kernel_rfl) (fun _ _ _ h => h) (Or.inl ⟨by rfl, fun w hSw => by go_simp⟩) hHeld ?_
                try simp only [Act.put, List.getElem_toArray, List.getElem_cons_succ, List.getElem_cons_zero, List.setIfInBounds_toArray, List.set_cons_zero, List.set_cons_succ]
                refine wpAnyH_done (by kernel_rfl) ?_ _
                have YY := Lib.hid (Y12.alloc Y12.size (.cells #[.int .u8 p.kind] 5))
                clear hHeld
                go_wp2_with fail
                go_meet
                exact ⟨HST.out, YY⟩
      case rest =>
        obtain ⟨rfl, I3⟩ := hcut
        obtain ⟨v0, v1, v2⟩ := b3 (HX10.out.on I3.out)
        have hsv := (HX10.out.on I3.out).1
        have HBD : Hid (Below w1.heap.size w1 wc) := Lib.hid (below_step B10.out I3.out)
        have HSN : Hid (PBank.sum (l.take k) + p.amt = PBank.sum (l.take (k + 1))) := Lib.hid (by rw [HTK.out, PBank.sum_snoc])
        have HTN : Hid (tx ++ PBank.line p = PBank.head per ++ PBank.lines (l.take (k + 1))) := Lib.hid (by rw [HTK.out, PBank.lines_snoc, ← List.append_assoc, HTX.out])
        obtain ⟨s0, s1⟩ := HSB.out
        obtain ⟨m0, m1⟩ := HAM.out
        obtain ⟨sm, hsm⟩ : ∃ z, PBank.sum (l.take k) = z := ⟨_, rfl⟩
        rw [hsm] at s0 s1 HSN ⊢
        have gw : IntKind.i64.wrap (sm + p.amt) = sm + p.amt := by rw [IntKind.wrap_i64]; omega
        obtain ⟨t3, ht3⟩ : ∃ t3, tx ++ PBank.line p = t3 := ⟨_, rfl⟩
        rw [ht3] at HTN ⊢
        clear hsm ht3
        go_wp2_with fail
        exact ⟨⟨k + 1, by congr 1, by omega, congrArg (Value.int .i64) HSN.out, by rw [HTN.out], HBD⟩, by simp [intOf]; omega⟩
    · obtain rfl : k = n := by omega
      have gk : ¬ (k : Int) < (k : Int) := by omega
      have htk : l.take k = l := List.take_of_length_le (by rw [HL.out]; exact Nat.le_refl _)
      rw [htk]
      have hall : ∀ y ∈ l, PBank.okP y = true := fun y hy => HRt.out.mem hy
      have hsb := PBank.sum_bound hall
      have hln := PBank.lines_len hall
      have hhl := PBank.head_len HRt.out.lo HRt.out.hi
      rw [HL.out] at hsb hln
      obtain ⟨sN, hsN⟩ : ∃ z : Nat, PBank.sum l = z := ⟨(PBank.sum l).toNat, by omega⟩
      have hsle : sN ≤ 5628373634306277376 := by omega
      obtain ⟨tx, htx⟩ : ∃ tx, PBank.head per ++ PBank.lines l = tx := ⟨_, rfl⟩
      have txl : tx.length = 7 + 28 * k := by rw [← htx, List.length_append, hhl, hln]
      obtain ⟨ta, hta⟩ : ∃ t, PBank.pad 4 k = t := ⟨_, rfl⟩
      obtain ⟨tm, htm⟩ : ∃ t, PBank.pad 20 sN = t := ⟨_, rfl⟩
      have tal : ta.length = 4 := by rw [← hta]; exact PBank.pad_len (by decide) (by have : (10 : Nat) ^ 4 = 10000 := rfl; omega)
      have tml : tm.length = 20 := by rw [← htm]; exact PBank.pad_len (by decide) (by have : (10 : Nat) ^ 20 = 100000000000000000000 := rfl; omega)
      have CA := Lib.hid (fun wz => wide_pad (n := k) (z := (k : Int)) (dz := 4) (d := 4) wz rfl rfl (by decide) (by decide) (by have : (10 : Nat) ^ 4 = 10000 := rfl; omega) (by omega) hta)
      have CM := Lib.hid (fun wz => wide_pad (n := sN) (z := (sN : Int)) (dz := 20) (d := 20) wz rfl rfl (by decide) (by decide) (by have : (10 : Nat) ^ 20 = 100000000000000000000 := rfl; omega) (by omega) htm)
      have HST : Hid (({ data := tx.toArray } ++ { data := #[84] } ++ { data := ta.toArray } ++ { data := tm.toArray } ++ { data := #[10] } : ByteArray) = ⟨(PBank.txt per l).toArray⟩) := Lib.hid (by
        have e : PBank.txt per l = tx ++ (84 :: (ta ++ (tm ++ [10]))) := by unfold PBank.txt PBank.foot; rw [← List.append_assoc, htx, HL.out, hsN, Int.toNat_natCast, hta, htm]
        rw [e]
        apply ByteArray.ext
        simp)
      rw [htx, hsN]
      obtain ⟨x0, x1⟩ := c2 (HXB.out.on I2.out)
      have hsx := (HXB.out.on I2.out).1
      have z1 : ¬ 9223372036854775807 < 7 + 28 * k + 1 := by omega
      have z2 : ¬ 9223372036854775807 < 7 + 28 * k + 1 + 4 := by omega
      have z3 : ¬ 9223372036854775807 < 7 + 28 * k + 1 + 4 + 20 := by omega
      have z4 : ¬ 9223372036854775807 < 7 + 28 * k + 1 + 4 + 20 + 1 := by omega
      clear htx hta htm hsN hall htk hln hhl hsb
      go_wp2_with (go_at_call 25; refine (CA.out _).mono ?_)
      intro e6 w6 h6
      obtain ⟨rfl, b6⟩ := h6
      have B6 := Lib.hid b6
      clear b6 x0 x1 hsx CA
      go_wp2_with (go_at_call 25; refine (CM.out _).mono ?_)
      intro e7 w7 h7
      obtain ⟨rfl, b7⟩ := h7
      have B7 := Lib.hid (below_step B1.out (below_step I2.out (below_step B6.out b7)))
      clear b7 CM
      go_wp2_with fail
      rw [HST.out]
      exact FIN.out _ B7.out
end Go.Proofs.YtbnnmakmgleikaaDoor
