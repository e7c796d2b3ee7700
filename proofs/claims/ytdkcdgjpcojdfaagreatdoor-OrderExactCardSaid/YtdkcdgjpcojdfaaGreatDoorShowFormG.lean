/-
  What the landed show answers: how an operation is written.
-/
import Derived.Test.YtdkcdgjpcojdfaaGreatDoorSM
import Derived.Test.YtdkcdgjpcojdfaaGreatDoorCheckRowsG
import Derived.Test.YtdkcdgjpcojdfaaGreatDoorBK

set_option linter.unusedVariables false
namespace Go.Proofs.YtdkcdgjpcojdfaaGreatDoor
open Go.RowKit

def slC (s : List UInt8 × Nat) : List Value := [.string ⟨s.1.toArray⟩, .int .i64 (s.2 : Nat)]
def slotR : Rec (List UInt8 × Nat) := ⟨slC, 2, by decide, fun _ => rfl, fun x u hu => by simp [slC] at hu; rcases hu with rfl | rfl <;> rfl⟩
theorem bx3 {w : World} {H : Nat} {a b c : Value} (h : Box w H [a, b, c]) : w.cell? ⟨H, 0, none⟩ = some a ∧ w.cell? ⟨H, 1, none⟩ = some b ∧ w.cell? ⟨H, 2, none⟩ = some c := ⟨h.c 0 rfl, h.c 1 rfl, h.c 2 rfl⟩
theorem bx3f {w : World} {H : Nat} {a b c : Value} (h : Box w H [a, b, c]) : w.frozen? ⟨H, 0, none⟩ = false ∧ w.frozen? ⟨H, 1, none⟩ = false ∧ w.frozen? ⟨H, 2, none⟩ = false := ⟨h.f 0 rfl, h.f 1 rfl, h.f 2 rfl⟩
theorem st3x {w : World} {H : Nat} {a b c : Value} (h : Box w H [a, b, c]) (a' b' c' : Value) :
    ∃ w', (((w.setCell ⟨H, 0, none⟩ a').setCell ⟨H, 1, none⟩ b').setCell ⟨H, 2, none⟩ c') = w' ∧ Box w' H [a', b', c'] ∧ Only H w w' :=
  ⟨_, rfl, ((h.set 0 (by simp) a').set 1 (by simp) b').set 2 (by simp) c', ((((Only.refl H w).set 0 a').set 1 b').set 2 c')⟩
theorem slots_new (w : World) (t : TypeId) (l : List (List UInt8 × Nat)) {H : Nat} (hH : H = w.heap.size) : SlX slotR (w.alloc (.cells (slotR.cells l).toArray t)) (some ⟨H, 0, none⟩) l.length l := by
  subst hH
  refine ⟨rfl, .inr ⟨w.heap.size, 0, rfl, fun i hi j v e => ?_⟩⟩
  have h := (Box.new w t (slotR.cells l)).c _ (slotR.cells_get l i hi j v e)
  rw [Nat.zero_add]
  exact h
theorem blank_add (op : List UInt8) : ({ data := #[32] } ++ ⟨op.toArray⟩ ++ { data := #[32] } : ByteArray) = ⟨(32 :: (op ++ [32])).toArray⟩ := by
  apply ByteArray.ext
  simp
set_option maxHeartbeats 3200000 in
set_option maxRecDepth 100000 in
theorem kbetween_any {op : List UInt8} (r a b : Nat) (hop : op.length ≤ 100) (w : World) : Calls Tryz.prog 106 #[.string ⟨op.toArray⟩, .int .i64 (r : Nat), .int .i64 (a : Nat), .int .i64 (b : Nat)] w fun e w' => e = .returned (.agg #[.int .i64 (r : Nat), .slice (some ⟨w.heap.size + 1, 0, none⟩) 2 2, .string { data := #[] }]) ∧ SlX slotR w' (some ⟨w.heap.size + 1, 0, none⟩) 2 [([], a), (32 :: (op ++ [32]), b)] ∧ Below w.heap.size w w' := by
  obtain ⟨H, hH⟩ : ∃ H, w.heap.size = H := ⟨_, rfl⟩
  obtain ⟨w1, hw1, RB, b1⟩ : ∃ w1, w.alloc (.cells #[.int .i64 0, .slice none 0 0, .string { data := #[] }] 142) = w1 ∧ Box w1 w.heap.size [.int .i64 0, .slice none 0 0, .string { data := #[] }] ∧ Below w.heap.size w w1 := ⟨_, rfl, Box.new _ _ [.int .i64 0, .slice none 0 0, .string { data := #[] }], (Below.refl _ _).alloc (Nat.le_refl _) _⟩
  have hs1 : w1.heap.size = H + 1 := by rw [← hw1, ← hH]; simp
  have hes : (ByteArray.mk op.toArray).size = op.length := by simp [ByteArray.size]
  have g1 : ¬ 9223372036854775807 < 1 + op.length := by omega
  have g2 : ¬ 9223372036854775807 < 1 + op.length + 1 := by omega
  obtain ⟨w2, hw2, SL, b2⟩ : ∃ w2, w1.alloc (.cells #[.string { data := #[] }, .int .i64 (a : Nat), .string ({ data := #[32] } ++ ⟨op.toArray⟩ ++ { data := #[32] }), .int .i64 (b : Nat)] 171) = w2 ∧ SlX slotR w2 (some ⟨H + 1, 0, none⟩) 2 [([], a), (32 :: (op ++ [32]), b)] ∧ Below w1.heap.size w1 w2 :=
    ⟨_, rfl, by rw [blank_add]; exact slots_new w1 171 [([], a), (32 :: (op ++ [32]), b)] hs1.symm, (Below.refl _ _).alloc (Nat.le_refl _) _⟩
  have R2 := RB.on b2
  rw [hH] at R2 RB b1
  obtain ⟨w3, hw3, R3, ON⟩ := st3x R2 (.int .i64 (r : Nat)) (.slice (some ⟨H + 1, 0, none⟩) 2 2) (.string { data := #[] })
  have S3 : SlX slotR w3 (some ⟨H + 1, 0, none⟩) 2 [([], a), (32 :: (op ++ [32]), b)] := by
    rw [← hw3]
    have hf : ∀ ad : Addr, (some ⟨H + 1, 0, none⟩ : Option Addr) = some ad → H + 1 ≤ ad.block := fun ad e => by cases e; exact Nat.le_refl _
    exact ((SL.far hf (Nat.lt_succ_self H) _).far hf (Nat.lt_succ_self H) _).far hf (Nat.lt_succ_self H) _
  have FIN : Hid (SlX slotR w3 (some ⟨H + 1, 0, none⟩) 2 [([], a), (32 :: (op ++ [32]), b)] ∧ Below H w w3) := Lib.hid ⟨S3, ON.below (Nat.le_refl _) (b1.trans (b2.mono (by omega)))⟩
  obtain ⟨r0, r1, r2⟩ := bx3 R2
  obtain ⟨f0, f1, f2⟩ := bx3f R2
  have hsr := R2.1
  obtain ⟨q0, q1, q2⟩ := bx3 R3
  rw [← hw3] at q0 q1 q2
  have HW1 := Lib.hid hw1; have HW3 := Lib.hid hw3; have HH := Lib.hid hH
  clear hw1 hw3 RB b1 b2 SL R2 R3 ON S3 hH
  go_enter Tryz.func106, Tryz.ntmps106
  go_upto_region 1 with fail
  rw [HW1.out]
  (try rw [HH.out])
  clear HW1
  go_wp2_with fail
  (try simp only [Exit.inBlock, Exit.then])
  refine bodyPost_ret (by simp [results, Tryz.results106, go_sem, q0, q1, q2]; try rfl) rfl ?_
  rw [HW3.out, HH.out]
  exact ⟨rfl, FIN.out⟩
def FormAns (op : List UInt8) (w : World) (e : Ending) (w' : World) : Prop := Below w.heap.size w w' ∧ match PShow.formOf op with
  | none => e = .returned (.tuple #[.agg #[.int .i64 0, .slice none 0 0, .string { data := #[] }], .bool false])
  | some f => ∃ P c, e = .returned (.tuple #[.agg #[.int .i64 (f.rank : Nat), .slice P f.parts.length c, .string ⟨f.fin.toArray⟩], .bool true]) ∧ (∀ a, P = some a → w.heap.size ≤ a.block) ∧ SlX slotR w' P f.parts.length f.parts
theorem sf_ne {op : List UInt8} {l : List (List UInt8)} (h : op ∉ l) {s : List UInt8} (hs : s ∈ l) : (op == s) = false := by rw [beq_eq_false_iff_ne]; rintro rfl; exact h hs
def opK : List (List UInt8) := [[119, 104, 111, 108, 101], [97, 109, 111, 117, 110, 116], [114, 97, 116, 101], [110, 97, 109, 101], [110, 101, 103], [42], [43], [45], [60], [60, 61], [61], [60, 62], [62], [62, 61], [109, 105, 110], [109, 97, 120], [105, 102]]
theorem form_none {op : List UInt8} (h : op ∉ opK) : PShow.formOf op = none := by
  simp only [opK, List.mem_cons, List.not_mem_nil, or_false, not_or] at h
  obtain ⟨n1, n2, n3, n4, n5, n6, n7, n8, n9, n10, n11, n12, n13, n14, n15, n16, n17⟩ := h
  unfold PShow.formOf
  rw [if_neg (by rintro (h | h | h | h); exact n1 h; exact n2 h; exact n3 h; exact n4 h), if_neg (show ¬ op = PCheck.negS from n5), if_neg n6, if_neg (by rintro (h | h); exact n7 h; exact n8 h),
    if_neg (by
      intro h
      simp only [PShow.compL, List.mem_cons, List.not_mem_nil, or_false] at h
      rcases h with h | h | h | h | h | h
      · exact n9 h
      · exact n10 h
      · exact n11 h
      · exact n12 h
      · exact n13 h
      · exact n14 h), if_neg (by rintro (h | h); exact n15 h; exact n16 h), if_neg (show ¬ op = PCheck.ifS from n17)]
theorem form_end {w w1 w2 : World} {H : Nat} {P : Option Addr} {f : PShow.Fm} (rv : Int) (n c : Nat) (fv : ByteArray) (hr : rv = (f.rank : Nat)) (hn : n = f.parts.length) (hv : fv = ⟨f.fin.toArray⟩) (hH : w.heap.size = H) (b1 : Below H w w1) (hs1 : w1.heap.size = H + 1) (R1 : Box w1 H [.int .i64 0, .slice none 0 0, .string { data := #[] }]) (b2 : Below (H + 1) w1 w2)
    (hP : ∀ a, P = some a → H + 1 ≤ a.block) (S : SlX slotR w2 P f.parts.length f.parts) : ∃ w3, ((w2.setCell ⟨H, 0, none⟩ (.int .i64 rv)).setCell ⟨H, 1, none⟩ (.slice P n c)).setCell ⟨H, 2, none⟩ (.string fv) = w3 ∧
    (w2.cell? ⟨H, 0, none⟩ = some (.int .i64 0) ∧ w2.cell? ⟨H, 1, none⟩ = some (.slice none 0 0) ∧ w2.cell? ⟨H, 2, none⟩ = some (.string { data := #[] })) ∧ (w2.frozen? ⟨H, 0, none⟩ = false ∧ w2.frozen? ⟨H, 1, none⟩ = false ∧ w2.frozen? ⟨H, 2, none⟩ = false) ∧ H < w2.heap.size ∧
    (w3.cell? ⟨H, 0, none⟩ = some (.int .i64 rv) ∧ w3.cell? ⟨H, 1, none⟩ = some (.slice P n c) ∧ w3.cell? ⟨H, 2, none⟩ = some (.string fv)) ∧ Hid (Below w.heap.size w w3 ∧ (∀ a, P = some a → w.heap.size ≤ a.block) ∧ SlX slotR w3 P f.parts.length f.parts) := by
  have R2 := R1.keep b2 (Nat.lt_succ_self H)
  obtain ⟨w3, hw3, R3, ON⟩ := st3x R2 (.int .i64 rv) (.slice P n c) (.string fv)
  refine ⟨w3, hw3, bx3 R2, bx3f R2, R2.1, bx3 R3, Lib.hid ⟨?_, fun a e => ?_, ?_⟩⟩
  · rw [hH]; exact ON.below (Nat.le_refl _) (b1.trans (b2.mono (Nat.le_succ _)))
  · rw [hH]; have := hP a e; omega
  · rw [← hw3]; exact ((S.far hP (Nat.lt_succ_self H) _).far hP (Nat.lt_succ_self H) _).far hP (Nat.lt_succ_self H) _
set_option maxHeartbeats 12800000 in
set_option maxRecDepth 100000 in
theorem kform_any (op : List UInt8) (w : World) : Calls Tryz.prog 84 #[.string ⟨op.toArray⟩] w (FormAns op w) := by
  obtain ⟨Q, hQ⟩ : ∃ Q, FormAns op w = Q := ⟨_, rfl⟩
  rw [hQ]
  obtain ⟨H, hH⟩ : ∃ H, w.heap.size = H := ⟨_, rfl⟩
  obtain ⟨w1, hw1, RB, b1⟩ : ∃ w1, w.alloc (.cells #[.int .i64 0, .slice none 0 0, .string { data := #[] }] 142) = w1 ∧ Box w1 w.heap.size [.int .i64 0, .slice none 0 0, .string { data := #[] }] ∧ Below w.heap.size w w1 := ⟨_, rfl, Box.new _ _ [.int .i64 0, .slice none 0 0, .string { data := #[] }], (Below.refl _ _).alloc (Nat.le_refl _) _⟩
  have hs1 : w1.heap.size = H + 1 := by rw [← hw1, ← hH]; simp
  rw [hH] at RB b1
  have HW1 := Lib.hid hw1; have HH := Lib.hid hH; have HS1 := Lib.hid hs1; have R1 := Lib.hid RB; have B1 := Lib.hid b1
  have BT : Hid (∀ (o : List UInt8) (r a b : Nat), o.length ≤ 100 → Calls Tryz.prog 106 #[.string ⟨o.toArray⟩, .int .i64 (r : Nat), .int .i64 (a : Nat), .int .i64 (b : Nat)] w1 fun e w' => e = .returned (.agg #[.int .i64 (r : Nat), .slice (some ⟨H + 1 + 1, 0, none⟩) 2 2, .string { data := #[] }]) ∧ SlX slotR w' (some ⟨H + 1 + 1, 0, none⟩) 2 [([], a), (32 :: (o ++ [32]), b)] ∧ Below (H + 1) w1 w') := Lib.hid (fun o r a b h => by
    have := kbetween_any (op := o) r a b h w1
    rw [HS1.out] at this
    exact this)
  clear hw1 hH RB b1
  by_cases hop : op ∈ opK
  · simp only [opK, List.mem_cons, List.not_mem_nil, or_false] at hop
    rcases hop with rfl | rfl | rfl | rfl | rfl | rfl | rfl | rfl | rfl | rfl | rfl | rfl | rfl | rfl | rfl | rfl | rfl
    · have HQ := Lib.hid hQ
      obtain ⟨w3, hw3, ⟨r0, r1, r2⟩, ⟨f0, f1, f2⟩, hsr, ⟨q0, q1, q2⟩, FIN⟩ := form_end (f := ⟨3, [], []⟩) 3 0 0 { data := #[] } rfl rfl rfl HH.out B1.out HS1.out R1.out (Below.refl _ _) (P := none) (fun a e => by cases e) (slr_nil slotR w1 none)
      rw [← hw3] at q0 q1 q2
      have HW3 := Lib.hid hw3
      clear hw3 hQ hs1 BT
      go_enter Tryz.func84, Tryz.ntmps84
      go_upto_region 1 with fail
      rw [HW1.out]
      (try rw [HH.out])
      go_wp2_with fail
      (try simp only [Exit.inBlock, Exit.then])
      refine bodyPost_ret (by simp [results, Tryz.results84, go_sem, q0, q1, q2]; try rfl) rfl ?_
      rw [HW3.out, ← HQ.out]
      exact ⟨FIN.out.1, none, _, rfl, FIN.out.2⟩
    · have HQ := Lib.hid hQ
      obtain ⟨w3, hw3, ⟨r0, r1, r2⟩, ⟨f0, f1, f2⟩, hsr, ⟨q0, q1, q2⟩, FIN⟩ := form_end (f := ⟨3, [], []⟩) 3 0 0 { data := #[] } rfl rfl rfl HH.out B1.out HS1.out R1.out (Below.refl _ _) (P := none) (fun a e => by cases e) (slr_nil slotR w1 none)
      rw [← hw3] at q0 q1 q2
      have HW3 := Lib.hid hw3
      clear hw3 hQ hs1 BT
      go_enter Tryz.func84, Tryz.ntmps84
      go_upto_region 1 with fail
      rw [HW1.out]
      (try rw [HH.out])
      go_wp2_with fail
      (try simp only [Exit.inBlock, Exit.then])
      refine bodyPost_ret (by simp [results, Tryz.results84, go_sem, q0, q1, q2]; try rfl) rfl ?_
      rw [HW3.out, ← HQ.out]
      exact ⟨FIN.out.1, none, _, rfl, FIN.out.2⟩
    · have HQ := Lib.hid hQ
      obtain ⟨w3, hw3, ⟨r0, r1, r2⟩, ⟨f0, f1, f2⟩, hsr, ⟨q0, q1, q2⟩, FIN⟩ := form_end (f := ⟨3, [], []⟩) 3 0 0 { data := #[] } rfl rfl rfl HH.out B1.out HS1.out R1.out (Below.refl _ _) (P := none) (fun a e => by cases e) (slr_nil slotR w1 none)
      rw [← hw3] at q0 q1 q2
      have HW3 := Lib.hid hw3
      clear hw3 hQ hs1 BT
      go_enter Tryz.func84, Tryz.ntmps84
      go_upto_region 1 with fail
      rw [HW1.out]
      (try rw [HH.out])
      go_wp2_with fail
      (try simp only [Exit.inBlock, Exit.then])
      refine bodyPost_ret (by simp [results, Tryz.results84, go_sem, q0, q1, q2]; try rfl) rfl ?_
      rw [HW3.out, ← HQ.out]
      exact ⟨FIN.out.1, none, _, rfl, FIN.out.2⟩
    · have HQ := Lib.hid hQ
      obtain ⟨w3, hw3, ⟨r0, r1, r2⟩, ⟨f0, f1, f2⟩, hsr, ⟨q0, q1, q2⟩, FIN⟩ := form_end (f := ⟨3, [], []⟩) 3 0 0 { data := #[] } rfl rfl rfl HH.out B1.out HS1.out R1.out (Below.refl _ _) (P := none) (fun a e => by cases e) (slr_nil slotR w1 none)
      rw [← hw3] at q0 q1 q2
      have HW3 := Lib.hid hw3
      clear hw3 hQ hs1 BT
      go_enter Tryz.func84, Tryz.ntmps84
      go_upto_region 1 with fail
      rw [HW1.out]
      (try rw [HH.out])
      go_wp2_with fail
      (try simp only [Exit.inBlock, Exit.then])
      refine bodyPost_ret (by simp [results, Tryz.results84, go_sem, q0, q1, q2]; try rfl) rfl ?_
      rw [HW3.out, ← HQ.out]
      exact ⟨FIN.out.1, none, _, rfl, FIN.out.2⟩
    · have HQ := Lib.hid hQ
      obtain ⟨w2, hw2, S2, b2⟩ : ∃ w2, w1.alloc (.cells #[.string { data := #[45] }, .int .i64 3] 171) = w2 ∧ SlX slotR w2 (some ⟨H + 1, 0, none⟩) 1 [([45], 3)] ∧ Below (H + 1) w1 w2 :=
        ⟨_, rfl, slots_new w1 171 [([45], 3)] hs1.symm, (Below.refl _ _).alloc (by rw [hs1]; exact Nat.le_refl _) _⟩
      obtain ⟨w3, hw3, ⟨r0, r1, r2⟩, ⟨f0, f1, f2⟩, hsr, ⟨q0, q1, q2⟩, FIN⟩ := form_end (f := ⟨3, [([45], 3)], []⟩) 3 1 1 { data := #[] } rfl rfl rfl HH.out B1.out HS1.out R1.out b2 (P := some ⟨H + 1, 0, none⟩) (fun a e => by cases e; exact Nat.le_refl _) S2
      rw [← hw3] at q0 q1 q2
      have HW3 := Lib.hid hw3
      clear hw3 hQ BT S2 b2
      go_enter Tryz.func84, Tryz.ntmps84
      go_upto_region 1 with fail
      rw [HW1.out]
      (try rw [HH.out])
      go_wp2_with fail
      (try simp only [Exit.inBlock, Exit.then])
      refine bodyPost_ret (by simp [results, Tryz.results84, go_sem, q0, q1, q2]; try rfl) rfl ?_
      rw [HW3.out, ← HQ.out]
      exact ⟨FIN.out.1, some ⟨H + 1, 0, none⟩, _, rfl, FIN.out.2⟩
    · have HQ := Lib.hid hQ
      have CB := Lib.hid (BT.out [42] 2 2 3 (by decide))
      clear hQ hs1 BT
      go_enter Tryz.func84, Tryz.ntmps84
      go_upto_region 1 with fail
      rw [HW1.out]
      (try rw [HH.out])
      go_wp2_with fail
      refine (CB.out).mono ?_
      rintro _ w2 ⟨rfl, S2, b2⟩
      obtain ⟨w3, hw3, ⟨r0, r1, r2⟩, ⟨f0, f1, f2⟩, hsr, ⟨q0, q1, q2⟩, FIN⟩ := form_end (f := PShow.between [42] 2 2 3) 2 2 2 { data := #[] } rfl rfl rfl HH.out B1.out HS1.out R1.out b2 (P := some ⟨H + 1 + 1, 0, none⟩) (fun a e => by cases e; exact Nat.le_succ _) S2
      rw [← hw3] at q0 q1 q2
      have HW3 := Lib.hid hw3
      clear hw3 S2 b2 CB
      go_wp2_with fail
      (try simp only [Exit.inBlock, Exit.then])
      refine bodyPost_ret (by simp [results, Tryz.results84, go_sem, q0, q1, q2]; try rfl) rfl ?_
      rw [HW3.out, ← HQ.out]
      exact ⟨FIN.out.1, some ⟨H + 1 + 1, 0, none⟩, _, rfl, FIN.out.2⟩
    · have HQ := Lib.hid hQ
      have CB := Lib.hid (BT.out [43] 1 1 2 (by decide))
      clear hQ hs1 BT
      go_enter Tryz.func84, Tryz.ntmps84
      go_upto_region 1 with fail
      rw [HW1.out]
      (try rw [HH.out])
      go_wp2_with fail
      refine (CB.out).mono ?_
      rintro _ w2 ⟨rfl, S2, b2⟩
      obtain ⟨w3, hw3, ⟨r0, r1, r2⟩, ⟨f0, f1, f2⟩, hsr, ⟨q0, q1, q2⟩, FIN⟩ := form_end (f := PShow.between [43] 1 1 2) 1 2 2 { data := #[] } rfl rfl rfl HH.out B1.out HS1.out R1.out b2 (P := some ⟨H + 1 + 1, 0, none⟩) (fun a e => by cases e; exact Nat.le_succ _) S2
      rw [← hw3] at q0 q1 q2
      have HW3 := Lib.hid hw3
      clear hw3 S2 b2 CB
      go_wp2_with fail
      (try simp only [Exit.inBlock, Exit.then])
      refine bodyPost_ret (by simp [results, Tryz.results84, go_sem, q0, q1, q2]; try rfl) rfl ?_
      rw [HW3.out, ← HQ.out]
      exact ⟨FIN.out.1, some ⟨H + 1 + 1, 0, none⟩, _, rfl, FIN.out.2⟩
    · have HQ := Lib.hid hQ
      have CB := Lib.hid (BT.out [45] 1 1 2 (by decide))
      clear hQ hs1 BT
      go_enter Tryz.func84, Tryz.ntmps84
      go_upto_region 1 with fail
      rw [HW1.out]
      (try rw [HH.out])
      go_wp2_with fail
      refine (CB.out).mono ?_
      rintro _ w2 ⟨rfl, S2, b2⟩
      obtain ⟨w3, hw3, ⟨r0, r1, r2⟩, ⟨f0, f1, f2⟩, hsr, ⟨q0, q1, q2⟩, FIN⟩ := form_end (f := PShow.between [45] 1 1 2) 1 2 2 { data := #[] } rfl rfl rfl HH.out B1.out HS1.out R1.out b2 (P := some ⟨H + 1 + 1, 0, none⟩) (fun a e => by cases e; exact Nat.le_succ _) S2
      rw [← hw3] at q0 q1 q2
      have HW3 := Lib.hid hw3
      clear hw3 S2 b2 CB
      go_wp2_with fail
      (try simp only [Exit.inBlock, Exit.then])
      refine bodyPost_ret (by simp [results, Tryz.results84, go_sem, q0, q1, q2]; try rfl) rfl ?_
      rw [HW3.out, ← HQ.out]
      exact ⟨FIN.out.1, some ⟨H + 1 + 1, 0, none⟩, _, rfl, FIN.out.2⟩
    · have HQ := Lib.hid hQ
      have CB := Lib.hid (BT.out [60] 0 1 1 (by decide))
      clear hQ hs1 BT
      go_enter Tryz.func84, Tryz.ntmps84
      go_upto_region 1 with fail
      rw [HW1.out]
      (try rw [HH.out])
      go_wp2_with fail
      refine (CB.out).mono ?_
      rintro _ w2 ⟨rfl, S2, b2⟩
      obtain ⟨w3, hw3, ⟨r0, r1, r2⟩, ⟨f0, f1, f2⟩, hsr, ⟨q0, q1, q2⟩, FIN⟩ := form_end (f := PShow.between [60] 0 1 1) 0 2 2 { data := #[] } rfl rfl rfl HH.out B1.out HS1.out R1.out b2 (P := some ⟨H + 1 + 1, 0, none⟩) (fun a e => by cases e; exact Nat.le_succ _) S2
      rw [← hw3] at q0 q1 q2
      have HW3 := Lib.hid hw3
      clear hw3 S2 b2 CB
      go_wp2_with fail
      (try simp only [Exit.inBlock, Exit.then])
      refine bodyPost_ret (by simp [results, Tryz.results84, go_sem, q0, q1, q2]; try rfl) rfl ?_
      rw [HW3.out, ← HQ.out]
      exact ⟨FIN.out.1, some ⟨H + 1 + 1, 0, none⟩, _, rfl, FIN.out.2⟩
    · have HQ := Lib.hid hQ
      have CB := Lib.hid (BT.out [60, 61] 0 1 1 (by decide))
      clear hQ hs1 BT
      go_enter Tryz.func84, Tryz.ntmps84
      go_upto_region 1 with fail
      rw [HW1.out]
      (try rw [HH.out])
      go_wp2_with fail
      refine (CB.out).mono ?_
      rintro _ w2 ⟨rfl, S2, b2⟩
      obtain ⟨w3, hw3, ⟨r0, r1, r2⟩, ⟨f0, f1, f2⟩, hsr, ⟨q0, q1, q2⟩, FIN⟩ := form_end (f := PShow.between [60, 61] 0 1 1) 0 2 2 { data := #[] } rfl rfl rfl HH.out B1.out HS1.out R1.out b2 (P := some ⟨H + 1 + 1, 0, none⟩) (fun a e => by cases e; exact Nat.le_succ _) S2
      rw [← hw3] at q0 q1 q2
      have HW3 := Lib.hid hw3
      clear hw3 S2 b2 CB
      go_wp2_with fail
      (try simp only [Exit.inBlock, Exit.then])
      refine bodyPost_ret (by simp [results, Tryz.results84, go_sem, q0, q1, q2]; try rfl) rfl ?_
      rw [HW3.out, ← HQ.out]
      exact ⟨FIN.out.1, some ⟨H + 1 + 1, 0, none⟩, _, rfl, FIN.out.2⟩
    · have HQ := Lib.hid hQ
      have CB := Lib.hid (BT.out [61] 0 1 1 (by decide))
      clear hQ hs1 BT
      go_enter Tryz.func84, Tryz.ntmps84
      go_upto_region 1 with fail
      rw [HW1.out]
      (try rw [HH.out])
      go_wp2_with fail
      refine (CB.out).mono ?_
      rintro _ w2 ⟨rfl, S2, b2⟩
      obtain ⟨w3, hw3, ⟨r0, r1, r2⟩, ⟨f0, f1, f2⟩, hsr, ⟨q0, q1, q2⟩, FIN⟩ := form_end (f := PShow.between [61] 0 1 1) 0 2 2 { data := #[] } rfl rfl rfl HH.out B1.out HS1.out R1.out b2 (P := some ⟨H + 1 + 1, 0, none⟩) (fun a e => by cases e; exact Nat.le_succ _) S2
      rw [← hw3] at q0 q1 q2
      have HW3 := Lib.hid hw3
      clear hw3 S2 b2 CB
      go_wp2_with fail
      (try simp only [Exit.inBlock, Exit.then])
      refine bodyPost_ret (by simp [results, Tryz.results84, go_sem, q0, q1, q2]; try rfl) rfl ?_
      rw [HW3.out, ← HQ.out]
      exact ⟨FIN.out.1, some ⟨H + 1 + 1, 0, none⟩, _, rfl, FIN.out.2⟩
    · have HQ := Lib.hid hQ
      have CB := Lib.hid (BT.out [60, 62] 0 1 1 (by decide))
      clear hQ hs1 BT
      go_enter Tryz.func84, Tryz.ntmps84
      go_upto_region 1 with fail
      rw [HW1.out]
      (try rw [HH.out])
      go_wp2_with fail
      refine (CB.out).mono ?_
      rintro _ w2 ⟨rfl, S2, b2⟩
      obtain ⟨w3, hw3, ⟨r0, r1, r2⟩, ⟨f0, f1, f2⟩, hsr, ⟨q0, q1, q2⟩, FIN⟩ := form_end (f := PShow.between [60, 62] 0 1 1) 0 2 2 { data := #[] } rfl rfl rfl HH.out B1.out HS1.out R1.out b2 (P := some ⟨H + 1 + 1, 0, none⟩) (fun a e => by cases e; exact Nat.le_succ _) S2
      rw [← hw3] at q0 q1 q2
      have HW3 := Lib.hid hw3
      clear hw3 S2 b2 CB
      go_wp2_with fail
      (try simp only [Exit.inBlock, Exit.then])
      refine bodyPost_ret (by simp [results, Tryz.results84, go_sem, q0, q1, q2]; try rfl) rfl ?_
      rw [HW3.out, ← HQ.out]
      exact ⟨FIN.out.1, some ⟨H + 1 + 1, 0, none⟩, _, rfl, FIN.out.2⟩
    · have HQ := Lib.hid hQ
      have CB := Lib.hid (BT.out [62] 0 1 1 (by decide))
      clear hQ hs1 BT
      go_enter Tryz.func84, Tryz.ntmps84
      go_upto_region 1 with fail
      rw [HW1.out]
      (try rw [HH.out])
      go_wp2_with fail
      refine (CB.out).mono ?_
      rintro _ w2 ⟨rfl, S2, b2⟩
      obtain ⟨w3, hw3, ⟨r0, r1, r2⟩, ⟨f0, f1, f2⟩, hsr, ⟨q0, q1, q2⟩, FIN⟩ := form_end (f := PShow.between [62] 0 1 1) 0 2 2 { data := #[] } rfl rfl rfl HH.out B1.out HS1.out R1.out b2 (P := some ⟨H + 1 + 1, 0, none⟩) (fun a e => by cases e; exact Nat.le_succ _) S2
      rw [← hw3] at q0 q1 q2
      have HW3 := Lib.hid hw3
      clear hw3 S2 b2 CB
      go_wp2_with fail
      (try simp only [Exit.inBlock, Exit.then])
      refine bodyPost_ret (by simp [results, Tryz.results84, go_sem, q0, q1, q2]; try rfl) rfl ?_
      rw [HW3.out, ← HQ.out]
      exact ⟨FIN.out.1, some ⟨H + 1 + 1, 0, none⟩, _, rfl, FIN.out.2⟩
    · have HQ := Lib.hid hQ
      have CB := Lib.hid (BT.out [62, 61] 0 1 1 (by decide))
      clear hQ hs1 BT
      go_enter Tryz.func84, Tryz.ntmps84
      go_upto_region 1 with fail
      rw [HW1.out]
      (try rw [HH.out])
      go_wp2_with fail
      refine (CB.out).mono ?_
      rintro _ w2 ⟨rfl, S2, b2⟩
      obtain ⟨w3, hw3, ⟨r0, r1, r2⟩, ⟨f0, f1, f2⟩, hsr, ⟨q0, q1, q2⟩, FIN⟩ := form_end (f := PShow.between [62, 61] 0 1 1) 0 2 2 { data := #[] } rfl rfl rfl HH.out B1.out HS1.out R1.out b2 (P := some ⟨H + 1 + 1, 0, none⟩) (fun a e => by cases e; exact Nat.le_succ _) S2
      rw [← hw3] at q0 q1 q2
      have HW3 := Lib.hid hw3
      clear hw3 S2 b2 CB
      go_wp2_with fail
      (try simp only [Exit.inBlock, Exit.then])
      refine bodyPost_ret (by simp [results, Tryz.results84, go_sem, q0, q1, q2]; try rfl) rfl ?_
      rw [HW3.out, ← HQ.out]
      exact ⟨FIN.out.1, some ⟨H + 1 + 1, 0, none⟩, _, rfl, FIN.out.2⟩
    · have HQ := Lib.hid hQ
      obtain ⟨w2, hw2, S2, b2⟩ : ∃ w2, w1.alloc (.cells #[.string ({ data := #[109, 105, 110] } ++ { data := #[40] }), .int .i64 0, .string { data := #[44, 32] }, .int .i64 0] 171) = w2 ∧ SlX slotR w2 (some ⟨H + 1, 0, none⟩) 2 [([109, 105, 110, 40], 0), ([44, 32], 0)] ∧ Below (H + 1) w1 w2 :=
        ⟨_, rfl, slots_new w1 171 [([109, 105, 110, 40], 0), ([44, 32], 0)] hs1.symm, (Below.refl _ _).alloc (by rw [hs1]; exact Nat.le_refl _) _⟩
      obtain ⟨w3, hw3, ⟨r0, r1, r2⟩, ⟨f0, f1, f2⟩, hsr, ⟨q0, q1, q2⟩, FIN⟩ := form_end (f := ⟨3, [([109, 105, 110, 40], 0), ([44, 32], 0)], [41]⟩) 3 2 2 { data := #[41] } rfl rfl rfl HH.out B1.out HS1.out R1.out b2 (P := some ⟨H + 1, 0, none⟩) (fun a e => by cases e; exact Nat.le_refl _) S2
      rw [← hw3] at q0 q1 q2
      have HW3 := Lib.hid hw3
      clear hw3 hQ BT S2 b2
      go_enter Tryz.func84, Tryz.ntmps84
      go_upto_region 1 with fail
      rw [HW1.out]
      (try rw [HH.out])
      go_wp2_with fail
      (try simp only [Exit.inBlock, Exit.then])
      refine bodyPost_ret (by simp [results, Tryz.results84, go_sem, q0, q1, q2]; try rfl) rfl ?_
      rw [HW3.out, ← HQ.out]
      exact ⟨FIN.out.1, some ⟨H + 1, 0, none⟩, _, rfl, FIN.out.2⟩
    · have HQ := Lib.hid hQ
      obtain ⟨w2, hw2, S2, b2⟩ : ∃ w2, w1.alloc (.cells #[.string ({ data := #[109, 97, 120] } ++ { data := #[40] }), .int .i64 0, .string { data := #[44, 32] }, .int .i64 0] 171) = w2 ∧ SlX slotR w2 (some ⟨H + 1, 0, none⟩) 2 [([109, 97, 120, 40], 0), ([44, 32], 0)] ∧ Below (H + 1) w1 w2 :=
        ⟨_, rfl, slots_new w1 171 [([109, 97, 120, 40], 0), ([44, 32], 0)] hs1.symm, (Below.refl _ _).alloc (by rw [hs1]; exact Nat.le_refl _) _⟩
      obtain ⟨w3, hw3, ⟨r0, r1, r2⟩, ⟨f0, f1, f2⟩, hsr, ⟨q0, q1, q2⟩, FIN⟩ := form_end (f := ⟨3, [([109, 97, 120, 40], 0), ([44, 32], 0)], [41]⟩) 3 2 2 { data := #[41] } rfl rfl rfl HH.out B1.out HS1.out R1.out b2 (P := some ⟨H + 1, 0, none⟩) (fun a e => by cases e; exact Nat.le_refl _) S2
      rw [← hw3] at q0 q1 q2
      have HW3 := Lib.hid hw3
      clear hw3 hQ BT S2 b2
      go_enter Tryz.func84, Tryz.ntmps84
      go_upto_region 1 with fail
      rw [HW1.out]
      (try rw [HH.out])
      go_wp2_with fail
      (try simp only [Exit.inBlock, Exit.then])
      refine bodyPost_ret (by simp [results, Tryz.results84, go_sem, q0, q1, q2]; try rfl) rfl ?_
      rw [HW3.out, ← HQ.out]
      exact ⟨FIN.out.1, some ⟨H + 1, 0, none⟩, _, rfl, FIN.out.2⟩
    · have HQ := Lib.hid hQ
      obtain ⟨w2, hw2, S2, b2⟩ : ∃ w2, w1.alloc (.cells #[.string { data := #[105, 102, 32] }, .int .i64 0, .string { data := #[32, 116, 104, 101, 110, 32] }, .int .i64 0, .string { data := #[32, 101, 108, 115, 101, 32] }, .int .i64 0] 171) = w2 ∧ SlX slotR w2 (some ⟨H + 1, 0, none⟩) 3 [([105, 102, 32], 0), ([32, 116, 104, 101, 110, 32], 0), ([32, 101, 108, 115, 101, 32], 0)] ∧ Below (H + 1) w1 w2 :=
        ⟨_, rfl, slots_new w1 171 [([105, 102, 32], 0), ([32, 116, 104, 101, 110, 32], 0), ([32, 101, 108, 115, 101, 32], 0)] hs1.symm, (Below.refl _ _).alloc (by rw [hs1]; exact Nat.le_refl _) _⟩
      obtain ⟨w3, hw3, ⟨r0, r1, r2⟩, ⟨f0, f1, f2⟩, hsr, ⟨q0, q1, q2⟩, FIN⟩ := form_end (f := ⟨0, [([105, 102, 32], 0), ([32, 116, 104, 101, 110, 32], 0), ([32, 101, 108, 115, 101, 32], 0)], []⟩) 0 3 3 { data := #[] } rfl rfl rfl HH.out B1.out HS1.out R1.out b2 (P := some ⟨H + 1, 0, none⟩) (fun a e => by cases e; exact Nat.le_refl _) S2
      rw [← hw3] at q0 q1 q2
      have HW3 := Lib.hid hw3
      clear hw3 hQ BT S2 b2
      go_enter Tryz.func84, Tryz.ntmps84
      go_upto_region 1 with fail
      rw [HW1.out]
      (try rw [HH.out])
      go_wp2_with fail
      (try simp only [Exit.inBlock, Exit.then])
      refine bodyPost_ret (by simp [results, Tryz.results84, go_sem, q0, q1, q2]; try rfl) rfl ?_
      rw [HW3.out, ← HQ.out]
      exact ⟨FIN.out.1, some ⟨H + 1, 0, none⟩, _, rfl, FIN.out.2⟩
  · have HN := Lib.hid (form_none hop)
    have e1 := sf_ne hop (s := [119, 104, 111, 108, 101]) (by decide)
    have e2 := sf_ne hop (s := [97, 109, 111, 117, 110, 116]) (by decide)
    have e3 := sf_ne hop (s := [114, 97, 116, 101]) (by decide)
    have e4 := sf_ne hop (s := [110, 97, 109, 101]) (by decide)
    have e5 := sf_ne hop (s := [110, 101, 103]) (by decide)
    have e6 := sf_ne hop (s := [42]) (by decide)
    have e7 := sf_ne hop (s := [43]) (by decide)
    have e8 := sf_ne hop (s := [45]) (by decide)
    have e9 := sf_ne hop (s := [60]) (by decide)
    have e10 := sf_ne hop (s := [60, 61]) (by decide)
    have e11 := sf_ne hop (s := [61]) (by decide)
    have e12 := sf_ne hop (s := [60, 62]) (by decide)
    have e13 := sf_ne hop (s := [62]) (by decide)
    have e14 := sf_ne hop (s := [62, 61]) (by decide)
    have e15 := sf_ne hop (s := [109, 105, 110]) (by decide)
    have e16 := sf_ne hop (s := [109, 97, 120]) (by decide)
    have e17 := sf_ne hop (s := [105, 102]) (by decide)
    have HQ := Lib.hid hQ
    obtain ⟨w3, hw3, ⟨r0, r1, r2⟩, ⟨f0, f1, f2⟩, hsr, ⟨q0, q1, q2⟩, FIN⟩ := form_end (f := ⟨0, [], []⟩) 0 0 0 { data := #[] } rfl rfl rfl HH.out B1.out HS1.out R1.out (Below.refl _ _) (P := none) (fun a e => by cases e) (slr_nil slotR w1 none)
    rw [← hw3] at q0 q1 q2
    have HW3 := Lib.hid hw3
    clear hw3 hQ hs1 BT hop
    go_enter Tryz.func84, Tryz.ntmps84
    go_upto_region 1 with fail
    rw [HW1.out]
    (try rw [HH.out])
    go_wp2_with fail
    (try simp only [Exit.inBlock, Exit.then])
    refine bodyPost_ret (by simp [results, Tryz.results84, go_sem, q0, q1, q2]; try rfl) rfl ?_
    rw [HW3.out, ← HQ.out]
    unfold FormAns
    rw [HN.out]
    exact ⟨FIN.out.1, rfl⟩
end Go.Proofs.YtdkcdgjpcojdfaaGreatDoor
