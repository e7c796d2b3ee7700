/-
  TreeDeep: an expression in so many ( ), or behind so many -, is read up to a depth of 20, and told to be too deep above.
-/
import Derived.Test.YtjcfgdldmgmiaaaDoorLaw08Awake
namespace PTree
def preT : List UInt8 := [108, 101, 116, 32, 97, 32, 61, 32]
def signT (m : Bool) : UInt8 := if m then 45 else 40
/-- What stands ahead of the 1, and behind it. -/
def headT (m : Bool) (k : Nat) : List UInt8 := preT ++ List.replicate k (signT m)
def tailT (m : Bool) (k : Nat) : List UInt8 := 49 :: List.replicate (if m then 0 else k) 41
def deepT (m : Bool) (k : Nat) : List UInt8 := headT m k ++ tailT m k ++ [59]
def deepOk (m : Bool) (k : Nat) : Bool := match parse (deepT m k) with
  | some (.ok _ rs) => decide (k < 20) && (decide (rs.length = 1) && decide (sizeOf rs = if m then k + 1 else 1))
  | some (.bad e q) => decide (20 ≤ k) && (decide (e = 9) && decide (q = 28))
  | none => false
set_option maxRecDepth 100000 in
theorem deep_all : ((List.range 40).all fun k => deepOk true k && deepOk false k) = true := by decide +kernel
theorem deep_at (m : Bool) {k : Nat} (h : k < 40) : deepOk m k = true := by
  have := List.all_eq_true.1 deep_all k (List.mem_range.2 h)
  rw [Bool.and_eq_true] at this
  cases m
  · exact this.2
  · exact this.1
theorem deep_low (m : Bool) {k : Nat} (h : k < 20) : ∃ t rs, parse (deepT m k) = some (.ok t rs) ∧ rs.length = 1 ∧ sizeOf rs = if m then k + 1 else 1 := by
  have h1 := deep_at m (k := k) (by omega)
  unfold deepOk at h1
  cases hp : parse (deepT m k) with
  | none => rw [hp] at h1; cases h1
  | some r =>
    rw [hp] at h1
    cases r with
    | bad e q =>
      simp only [Bool.and_eq_true, decide_eq_true_eq] at h1
      omega
    | ok t rs =>
      simp only [Bool.and_eq_true, decide_eq_true_eq] at h1
      exact ⟨t, rs, rfl, h1.2.1, h1.2.2⟩
theorem deep_high (m : Bool) {k : Nat} (h : 20 ≤ k) (h2 : k < 40) : parse (deepT m k) = some (.bad 9 28) := by
  have h1 := deep_at m h2
  unfold deepOk at h1
  cases hp : parse (deepT m k) with
  | none => rw [hp] at h1; cases h1
  | some r =>
    rw [hp] at h1
    cases r with
    | bad e q =>
      simp only [Bool.and_eq_true, decide_eq_true_eq] at h1
      obtain ⟨_, rfl, rfl⟩ := h1; rfl
    | ok t rs =>
      simp only [Bool.and_eq_true, decide_eq_true_eq] at h1
      omega
theorem headT_len (m : Bool) (k : Nat) : (headT m k).length = 8 + k := by unfold headT preT; rw [List.length_append, List.length_replicate]; rfl
theorem tailT_len (m : Bool) (k : Nat) : (tailT m k).length ≤ 1 + k := by unfold tailT; rw [List.length_cons, List.length_replicate]; split <;> omega
theorem headT_next (m : Bool) (k : Nat) : headT m k ++ [signT m] = headT m (k + 1) := by unfold headT; rw [List.append_assoc, ← List.replicate_succ']
theorem tailT_next (k : Nat) : tailT false k ++ [41] = tailT false (k + 1) := by
  show 49 :: List.replicate k 41 ++ [41] = 49 :: List.replicate (k + 1) 41
  rw [List.replicate_succ']; rfl
end PTree
namespace Go.Proofs.YtjcfgdldmgmiaaaDoor
open Go.RowKit
open PTree (R Ex Tr Rl Row headT tailT deepT)

set_option maxRecDepth 100000 in
set_option maxHeartbeats 6400000 in
theorem tdeep_walk (n : Int) (m : Bool) (w : World) (hn : (Lit.int .u8 n).wf = true) :
    Calls Tryd.prog 7 #[.int .u8 n, .bool m] w fun e w' => e = .returned (.bool true) ∧ Below w.heap.size w w' := by
  obtain ⟨h0, h1⟩ := u8_bounds hn
  obtain ⟨k, hk⟩ : ∃ k : Nat, n % 40 = (k : Int) := ⟨(n % 40).toNat, by omega⟩
  have hk4 : k < 40 := by omega
  have hkt : n.tmod 40 = (k : Int) := by rw [Int.tmod_eq_emod_of_nonneg h0]; exact hk
  have hk5 : (k : Int) < 40 := by omega
  clear hn hk
  cases m with
  | true =>
    go_enter Tryd.func7, Tryd.ntmps7
    go_wp2_with fail
    go_loop [6, 7, 15] (fun s t i => ∃ (q : Nat) (x : List UInt8), q ≤ k ∧ i = .int .i64 q ∧ t = .string { data := #[49] } ∧ s = .string ⟨x.toArray⟩ ∧ x.length ≤ 60 ∧ Hid (x = headT true q)) (fun _ _ i => k - (intOf i).toNat)
    case atStart => exact ⟨0, PTree.preT, Nat.zero_le _, rfl, rfl, rfl, by decide, Lib.hid (by simp [PTree.headT])⟩
    case round =>
      obtain ⟨q, x, hq, rfl, rfl, rfl, hx, HX⟩ := hrel
      by_cases hlt : q < k
      · have hx2 : (x ++ [45]).length ≤ 60 := by rw [HX.out]; show (headT true q ++ [PTree.signT true]).length ≤ 60; rw [PTree.headT_next, PTree.headT_len]; omega
        have HX2 : Hid (x ++ [45] = headT true (q + 1)) := Lib.hid (by rw [HX.out]; exact PTree.headT_next true q)
        go_wp2_with fail
        refine ⟨⟨q + 1, x ++ [45], by omega, rfl, rfl, congrArg Value.string (ByteArray.mk_append_mk _ _), hx2, HX2⟩, by simp [intOf]; omega⟩
      · obtain rfl : q = k := by omega
        have hlen : (deepT true q).length ≤ 1000 := by
          unfold PTree.deepT
          have h1 := PTree.headT_len true q
          have h2 := PTree.tailT_len true q
          simp only [List.length_append, List.length_cons, List.length_nil]; omega
        have hsz : (⟨(deepT true q).toArray⟩ : ByteArray).size ≤ 1000 := by show (deepT true q).toArray.size ≤ 1000; rw [List.size_toArray]; exact hlen
        have HE : Hid ((({ data := x.toArray } ++ { data := #[49] } ++ { data := #[59] } : ByteArray)) = ⟨(deepT true q).toArray⟩) := Lib.hid (((congrArg (· ++ _) (ByteArray.mk_append_mk x [49])).trans (ByteArray.mk_append_mk _ [59])).trans (by rw [HX.out]; rfl))
        by_cases h20 : q < 20
        · obtain ⟨t, rs, hp, hr1, hr2⟩ := PTree.deep_low true h20
          have hr2 : PTree.sizeOf rs = q + 1 := hr2
          have HP := tparse_ok (s := ⟨(deepT true q).toArray⟩) hp hsz
          rw [hr1, hr2, ← HE.out] at HP
          have HP := Lib.hid HP
          have gq : (q : Int) < 20 := by omega
          clear hp hr1 hr2 hsz hlen HE
          have ez : (((q : Int) + 1) == 1) = ((q : Int) == 0) := by rw [Bool.eq_iff_iff, beq_iff_eq, beq_iff_eq]; omega
          go_wp2_with fail
          refine (HP.out _).mono ?_
          rintro _ w1 ⟨A, ca, B, cb, rfl, -, -, b1⟩
          have B1 := Lib.hid b1
          clear b1 HP
          go_wp2_with fail
          refine (awake_any _).mono ?_
          rintro _ w2 ⟨rfl, b2⟩
          have B2 := Lib.hid (below_step (below_step B1.out ((Below.refl _ _).alloc (Nat.le_refl _) _)) b2)
          clear b2
          go_wp2_with fail
          go_ret
          exact ⟨rfl, B2.out⟩
        · have HP := tparse_bad (s := ⟨(deepT true q).toArray⟩) (PTree.deep_high true (by omega) hk4) hsz
          rw [← HE.out] at HP
          have HP := Lib.hid HP
          have gq : ¬ (q : Int) < 20 := by omega
          clear hsz hlen HE
          go_wp2_with fail
          refine (HP.out _).mono ?_
          rintro _ w1 ⟨rfl, b1⟩
          have B1 := Lib.hid b1
          clear b1 HP
          go_wp2_with fail
          refine (awake_any _).mono ?_
          rintro _ w2 ⟨rfl, b2⟩
          have B2 := Lib.hid (below_step (below_step B1.out ((Below.refl _ _).alloc (Nat.le_refl _) _)) b2)
          clear b2
          go_wp2_with fail
          go_ret
          exact ⟨rfl, B2.out⟩
  | false =>
    go_enter Tryd.func7, Tryd.ntmps7
    go_wp2_with fail
    go_loop [6, 7, 15] (fun s t i => ∃ (q : Nat) (x y : List UInt8), q ≤ k ∧ i = .int .i64 q ∧ s = .string ⟨x.toArray⟩ ∧ t = .string ⟨y.toArray⟩ ∧ x.length ≤ 60 ∧ y.length ≤ 60 ∧ Hid (x = headT false q) ∧ Hid (y = tailT false q)) (fun _ _ i => k - (intOf i).toNat)
    case atStart => exact ⟨0, PTree.preT, [49], Nat.zero_le _, rfl, rfl, rfl, by decide, by decide, Lib.hid (by simp [PTree.headT]), Lib.hid (by simp [PTree.tailT])⟩
    case round =>
      obtain ⟨q, x, y, hq, rfl, rfl, rfl, hx, hy, HX, HY⟩ := hrel
      by_cases hlt : q < k
      · have hx2 : (x ++ [40]).length ≤ 60 := by rw [HX.out]; show (headT false q ++ [PTree.signT false]).length ≤ 60; rw [PTree.headT_next, PTree.headT_len]; omega
        have HX2 : Hid (x ++ [40] = headT false (q + 1)) := Lib.hid (by rw [HX.out]; exact PTree.headT_next false q)
        have hy2 : (y ++ [41]).length ≤ 60 := by rw [HY.out, PTree.tailT_next]; have := PTree.tailT_len false (q + 1); omega
        have HY2 : Hid (y ++ [41] = tailT false (q + 1)) := Lib.hid (by rw [HY.out]; exact PTree.tailT_next q)
        go_wp2_with fail
        refine ⟨⟨q + 1, x ++ [40], y ++ [41], by omega, rfl, congrArg Value.string (ByteArray.mk_append_mk _ _), congrArg Value.string (ByteArray.mk_append_mk _ _), hx2, hy2, HX2, HY2⟩, by simp [intOf]; omega⟩
      · obtain rfl : q = k := by omega
        have hlen : (deepT false q).length ≤ 1000 := by
          unfold PTree.deepT
          have h1 := PTree.headT_len false q
          have h2 := PTree.tailT_len false q
          simp only [List.length_append, List.length_cons, List.length_nil]; omega
        have hsz : (⟨(deepT false q).toArray⟩ : ByteArray).size ≤ 1000 := by show (deepT false q).toArray.size ≤ 1000; rw [List.size_toArray]; exact hlen
        have HE : Hid ((({ data := x.toArray } ++ { data := y.toArray } ++ { data := #[59] } : ByteArray)) = ⟨(deepT false q).toArray⟩) := Lib.hid (((congrArg (· ++ _) (ByteArray.mk_append_mk x y)).trans (ByteArray.mk_append_mk _ [59])).trans (by rw [HX.out, HY.out]; rfl))
        by_cases h20 : q < 20
        · obtain ⟨t, rs, hp, hr1, hr2⟩ := PTree.deep_low false h20
          have hr2 : PTree.sizeOf rs = 1 := hr2
          have HP := tparse_ok (s := ⟨(deepT false q).toArray⟩) hp hsz
          rw [hr1, hr2, ← HE.out] at HP
          have HP := Lib.hid HP
          have gq : (q : Int) < 20 := by omega
          clear hp hr1 hr2 hsz hlen HE
          go_wp2_with fail
          refine (HP.out _).mono ?_
          rintro _ w1 ⟨A, ca, B, cb, rfl, -, -, b1⟩
          have B1 := Lib.hid b1
          clear b1 HP
          go_wp2_with fail
          refine (awake_any _).mono ?_
          rintro _ w2 ⟨rfl, b2⟩
          have B2 := Lib.hid (below_step (below_step B1.out ((Below.refl _ _).alloc (Nat.le_refl _) _)) b2)
          clear b2
          go_wp2_with fail
          go_ret
          exact ⟨rfl, B2.out⟩
        · have HP := tparse_bad (s := ⟨(deepT false q).toArray⟩) (PTree.deep_high false (by omega) hk4) hsz
          rw [← HE.out] at HP
          have HP := Lib.hid HP
          have gq : ¬ (q : Int) < 20 := by omega
          clear hsz hlen HE
          go_wp2_with fail
          refine (HP.out _).mono ?_
          rintro _ w1 ⟨rfl, b1⟩
          have B1 := Lib.hid b1
          clear b1 HP
          go_wp2_with fail
          refine (awake_any _).mono ?_
          rintro _ w2 ⟨rfl, b2⟩
          have B2 := Lib.hid (below_step (below_step B1.out ((Below.refl _ _).alloc (Nat.le_refl _) _)) b2)
          clear b2
          go_wp2_with fail
          go_ret
          exact ⟨rfl, B2.out⟩
end Go.Proofs.YtjcfgdldmgmiaaaDoor
