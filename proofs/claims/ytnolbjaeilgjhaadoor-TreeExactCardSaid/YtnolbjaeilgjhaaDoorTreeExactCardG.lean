/-
  TreeExact (any text of at most 600 bytes is the program that the document says, or the error, and where): for every input the call answers true, and each argument reads afterwards as it read before.
  Conditions: none on the input but the form's own reach; the five listed variables of Go's library (two tables of math-bits, one of strconv, its two sentinel errors) start as the program's text lays them: the card ties them to that text, in the pruned copy of the project that the seat holds.
-/
import Derived.Test.YtnolbjaeilgjhaaDoorL8A
import Derived.Test.YtnolbjaeilgjhaaDoorRef08ParseG
import Derived.Deep.RegionHeld3
import Derived.Test.YtnolbjaeilgjhaaDoorCardKit5
namespace Go.Proofs.YtnolbjaeilgjhaaDoor
open Go.RowKit
open PTree (R Ex Tr Rl Row)

/-- What a reader answers: rows, a place and an error's kind. -/
def RowsAt (rows : List Row) (exs : List Ex) (k q : Nat) (w : World) (e : Ending) (w' : World) : Prop :=
  ∃ A ca B cb, e = .returned (.tuple #[.agg #[.slice A rows.length ca, .slice B exs.length cb], .int .i64 q, .int .i64 k]) ∧ SlX rowR w' A rows.length rows ∧ SlX exR w' B exs.length exs ∧ Below w.heap.size w w'
theorem rows_at {r : Option (R (List Rl))} (hf : ∀ t rs, r = some (.ok t rs) → PTree.sizeOf rs + rs.length ≤ 4000) (h0 : r ≠ none) : ∃ (rows : List Row) (exs : List Ex) (k q : Nat), rows.length ≤ 4000 ∧ exs.length ≤ 4000 ∧ ∀ w e w', TreeAns r w e w' → RowsAt rows exs k q w e w' := by
  cases r with
  | none => exact absurd rfl h0
  | some r =>
    cases r with
    | bad k q => exact ⟨[], [], k, q, by decide, by decide, fun w e w' h => ⟨none, 0, none, 0, h.2.1, slr_nil _ _ _, slr_nil _ _ _, h.1⟩⟩
    | ok t rs =>
      have := hf t rs rfl
      refine ⟨PTree.rowsOf 0 rs, PTree.exprsOf 0 rs, 0, 0, by rw [PTree.rowsOf_len]; omega, by rw [PTree.exprsOf_len]; omega, fun w e w' h => ?_⟩
      obtain ⟨hb, A, ca, B, cb, he, _, _, h1, h2⟩ := h
      refine ⟨A, ca, B, cb, ?_, ?_, ?_, hb⟩
      · rw [PTree.rowsOf_len, PTree.exprsOf_len]; exact he
      · rw [PTree.rowsOf_len]; exact h1
      · rw [PTree.exprsOf_len]; exact h2
theorem keep22' {w w' : World} {p0 p1 p2 p3 : Addr} {a b c d : Value} (hb : Below w.heap.size w w') (h : (w.cell? p0 = some a ∧ w.cell? p1 = some b) ∧ w.cell? p2 = some c ∧ w.cell? p3 = some d) :
    (w'.cell? p0 = some a ∧ w'.cell? p1 = some b) ∧ w'.cell? p2 = some c ∧ w'.cell? p3 = some d :=
  ⟨⟨(hb.cell (World.block_lt_of_cell? w _ h.1.1)).trans h.1.1, (hb.cell (World.block_lt_of_cell? w _ h.1.2)).trans h.1.2⟩, (hb.cell (World.block_lt_of_cell? w _ h.2.1)).trans h.2.1, (hb.cell (World.block_lt_of_cell? w _ h.2.2)).trans h.2.2⟩
set_option maxRecDepth 100000 in
set_option maxHeartbeats 6400000 in
theorem texact_walk (s : ByteArray) (w : World) (hs : s.size ≤ maxLen) :
    Calls Tryd.prog 3 #[.string s] w fun e w' => e = .returned (.bool true) ∧ Below w.heap.size w w' := by
  unfold maxLen at hs
  by_cases h6 : 600 < s.size
  · have hl : (600 : Int) < (s.size : Int) := by omega
    go_enter Tryd.func3, Tryd.ntmps3
    go_wp2_with fail
    refine (awake_any _).mono ?_
    rintro _ w1 ⟨rfl, b⟩
    have B := Lib.hid b
    clear b
    go_wp2_with fail
    go_ret
    exact ⟨rfl, B.out⟩
  · have hl : ¬ (600 : Int) < (s.size : Int) := by omega
    obtain ⟨rows, exs, k, q, hr, he, hA⟩ := rows_at (r := PTree.parse s.data.toList) (fun t rs h => PTree.parse_few h (by rw [Array.length_toList]; show s.size ≤ 4000; omega)) (by obtain ⟨r, hr⟩ := PTree.parse_is s.data.toList; rw [hr]; exact fun k => by cases k)
    have P1 := Lib.hid (fun w => (tparse_any s w (by omega)).mono fun e w' h => hA w e w' h)
    have P2 := Lib.hid (fun w => (r8parse_any s w (by omega)).mono fun e w' h => hA w e w' h)
    have HR := Lib.hid hr; have HE := Lib.hid he
    have kk : ((k : Int) == (k : Int)) = true := beq_self_eq_true _
    have qq : ((q : Int) == (q : Int)) = true := beq_self_eq_true _
    clear hr he hA
    go_enter Tryd.func3, Tryd.ntmps3
    go_wp2_with fail
    refine (P1.out _).mono ?_
    rintro _ w3 ⟨A1, ca1, B1, cb1, rfl, s1, s2, b3⟩
    obtain ⟨w4, hw4, PB, b4⟩ : ∃ w4, w3.alloc (.cells #[.slice A1 rows.length ca1, .slice B1 exs.length cb1] 26) = w4 ∧ Box w4 w3.heap.size [.slice A1 rows.length ca1, .slice B1 exs.length cb1] ∧ Below w3.heap.size w3 w4 := ⟨_, rfl, Box.new _ _ [.slice A1 rows.length ca1, .slice B1 exs.length cb1], (Below.refl _ _).alloc (Nat.le_refl _) _⟩
    have S1 := Lib.hid (s1.on b4); have S2 := Lib.hid (s2.on b4)
    have B4 := Lib.hid (below_step b3 b4)
    have PB := Lib.hid PB
    have HW4 := Lib.hid hw4
    obtain ⟨G, hG⟩ : ∃ G, w3.heap.size = G := ⟨_, rfl⟩
    rw [hG] at PB
    have HG := Lib.hid hG
    clear s1 s2 b3 b4 hw4 hG P1
    go_upto_region 4 with fail
    rw [HW4.out]
    (try rw [HG.out])
    clear HW4 HG
    go_wp2_with fail
    refine (P2.out _).mono ?_
    rintro _ w5 ⟨A2, ca2, B2, cb2, rfl, s3, s4, b5⟩
    obtain ⟨w6, hw6, QB, b6⟩ : ∃ w6, w5.alloc (.cells #[.slice A2 rows.length ca2, .slice B2 exs.length cb2] 33) = w6 ∧ Box w6 w5.heap.size [.slice A2 rows.length ca2, .slice B2 exs.length cb2] ∧ Below w5.heap.size w5 w6 := ⟨_, rfl, Box.new _ _ [.slice A2 rows.length ca2, .slice B2 exs.length cb2], (Below.refl _ _).alloc (Nat.le_refl _) _⟩
    have b56 := below_step b5 b6
    have S1 := Lib.hid (S1.out.on b56); have S2 := Lib.hid (S2.out.on b56)
    have S3 := Lib.hid (s3.on b6); have S4 := Lib.hid (s4.on b6)
    have PB6 := Lib.hid (PB.out.on b56); have QB6 := Lib.hid QB
    have B6 := Lib.hid (below_step B4.out b56)
    have HW6 := Lib.hid hw6
    obtain ⟨H, hH⟩ : ∃ H, w5.heap.size = H := ⟨_, rfl⟩
    rw [hH] at QB6
    have HH := Lib.hid hH
    clear s3 s4 b5 b6 b56 hw6 hH P2 PB QB B4
    go_upto_region 5 with fail
    rw [HW6.out]
    (try rw [HH.out])
    clear HW6 HH
    have BD : Below w6.heap.size w6 w6.drew := (Below.refl _ _).drew
    obtain ⟨p0, p1⟩ := box2 (PB6.out.on BD)
    obtain ⟨q0, q1⟩ := box2 (QB6.out.on BD)
    have ZZ : (w6.drew.cell? ⟨G, 0, none⟩ = some (.slice A1 rows.length ca1) ∧ w6.drew.cell? ⟨G, 1, none⟩ = some (.slice B1 exs.length cb1)) ∧ w6.drew.cell? ⟨H, 0, none⟩ = some (.slice A2 rows.length ca2) ∧ w6.drew.cell? ⟨H, 1, none⟩ = some (.slice B2 exs.length cb2) := ⟨⟨p0, p1⟩, q0, q1⟩
    have CP := tref_any (ca := ca1) (cb := cb1) (S1.out.on BD) (S2.out.on BD) (by have := HR.out; omega) (by have := HE.out; omega)
    have S3 := Lib.hid (S3.out.on BD); have S4 := Lib.hid (S4.out.on BD)
    have HBD := Lib.hid (below_step B6.out BD)
    clear BD p0 p1 q0 q1 S1 S2 PB6 QB6 B6
    go_region_held3 (fun w' => (w'.cell? ⟨G, 0, none⟩ = some (.slice A1 rows.length ca1) ∧ w'.cell? ⟨G, 1, none⟩ = some (.slice B1 exs.length cb1)) ∧ w'.cell? ⟨H, 0, none⟩ = some (.slice A2 rows.length ca2) ∧ w'.cell? ⟨H, 1, none⟩ = some (.slice B2 exs.length cb2))
      (first
        | with_reducible exact ZZ
        | with_reducible exact Z8
        | with_reducible exact ZA
        | with_reducible exact ZB)
      (first
        | (go_at_call 14; (with_reducible refine CP.mono ?_); rintro _ w8 ⟨A8, ca8, B8, cb8, rfl, s81, s82, -, -, b8⟩; have Z8 := keep22' b8 ZZ; have CS := tsame_any (ca := ca8) (cb := cb8) (ca' := ca2) (cb' := cb2) s81 s82 (S3.out.on b8) (S4.out.on b8) rfl rfl (by have := HR.out; omega) (by have := HE.out; omega))
        | (go_at_call 13; (with_reducible refine CS.mono ?_); rintro _ w10 ⟨rfl, b10⟩; have ZA := keep22' b10 Z8; have CW := awake_any w10)
        | (go_at_call 10; (with_reducible refine CW.mono ?_); rintro _ w11 ⟨rfl, b11⟩; have ZB := keep22' b11 ZA))
    all_goals
      have BZ := Lib.hid (below_step (below_step (below_step HBD.out b8) b10) b11)
      clear ZZ Z8 ZA ZB CP CS CW b8 b10 b11 s81 s82
      go_wp2_with fail
      go_ret
      exact ⟨rfl, BZ.out⟩
end Go.Proofs.YtnolbjaeilgjhaaDoor

namespace Go.Proofs.YtnolbjaeilgjhaaDoor.treeExact
open Go.ChangeShapes Go.WideShapes Go.ChangeAt Go.RowKit
open Go.ChangeMaps (open_string shut_string)
set_option linter.unusedVariables false

set_option maxRecDepth 100000 in
theorem contract (H : Type) (enc : TypeId × Value → H) (W : World) (base : Nat) (args : Array Value) (ds gs : List (DataW H)) (before : List MemPlace)
    (hval0 : ∀ (j : Nat) t v, Tryd.f3.params[j]? = some t → args[j]? = some v → Value.okWide Tryd.prog W .any base t v)
    (hW : DataW.Whole enc Tryd.prog Tryd.f3.params.toList Rows.treeExactSpec.vars false W args.toList ds gs before) (hL : laidMetH Tryd.prog Rows.treeExactRow.laid W) :
    Calls Tryd.prog 3 args W fun e W' => ∃ v, e = .returned v ∧ Rows.treeExactSpec.post enc Tryd.prog Tryd.f3 false true false false W args v W' := by
  have hval := hval0
  have hW' := hW
  obtain ⟨p, q, hA0, hV, rfl, hfz, hnd⟩ := hW
  have hA : DataW.TrodAll enc Tryd.prog W 0 (fun _ => true) true Tryd.f3.params.toList args.toList ds p := hA0
  rw [Tryd.params3] at hA hval
  obtain ⟨v0, vs0, d0, ds0, p0, q0, hargs, rfl, rfl, h0, r0⟩ := trodAll_cons hA
  obtain ⟨rfl, rfl, rfl⟩ := trodAll_nil r0
  obtain rfl : args = #[v0] := by cases args; simp_all
  obtain ⟨rfl, rfl⟩ := trodVars_none hV
  obtain ⟨a0, rfl, rfl, rfl, w0⟩ := open_string Tryd.underlying9 (hval 0 9 v0 rfl rfl) h0
  clear hA0 hval0
  refine (texact_walk a0 W  w0).mono fun e W' ⟨he, bel⟩ => ?_
  subst he
  exact ⟨_, rfl, _, _, _, [], _, [], hW', trodAll_mk1 (shut_bool Tryd.underlying4 _), (trodAll_cons_mk (shut_string Tryd.underlying9 w0) trodAll_mk0), rfl, bel.frame _, fun h => by cases h⟩

theorem reads (os : Os) {H : Type} (enc : TypeId × Value → H) : ∃ places, DataW.whole enc Tryd.prog ((World.laidAll Tryd.prog os tabs).forCall (fun _ _ => 0) ⟨#[], #[.string ByteArray.empty], []⟩).memory Tryd.f3.params.toList Rows.treeExactSpec.vars false #[.string ByteArray.empty].toList 8 = some ([.lit (.string [])], [], places) :=
  ⟨[], by kernel_rfl⟩

set_option maxRecDepth 100000 in
theorem lifted (os : Os) (started : os.Started) (H : Type) (enc : TypeId × Value → H) (F : Stop.Interp) :
    ReturnsInHanded {} Tryd.checked os 3 .any ((OpenSpec.ofChange Rows.treeExactSpec).preRow enc Tryd.prog Tryd.f3 Rows.treeExactRow.domain false Rows.treeExactRow.laid) (((OpenSpec.ofChange Rows.treeExactSpec).at F).post enc Tryd.prog Tryd.f3 false true false false) := by
  obtain ⟨places, hx⟩ := reads os enc
  refine returnsInHanded_of_row (C := Tryd.checked) (s := OpenSpec.ofChange Rows.treeExactSpec) own started (by kernel_rfl) Tryd.func3
    (witness_row_at (enc := enc) (C := Tryd.checked) false (World.laidAll Tryd.prog os tabs) #[.string ByteArray.empty] (World.laidAll_os _ _ _) (by kernel_rfl) (by kernel_rfl) (by kernel_rfl)
      (OpenSpec.preRow_of_cond 8 hx (by kernel_rfl) (fun k hk => by cases hk) (by kernel_rfl) (tabs_met os _))) ?_
  intro W base args ds gs before hval hW _ _ _ hL _ _
  exact contract H enc W base args ds gs before hval hW hL

theorem said : Rows.TreeExactSaid :=
  OpenClaim.holds_of_cond 3 Tryd.f3 rfl rfl rfl rfl rfl rfl rfl ⟨rfl, rfl, rfl, rfl, rfl⟩ rfl rfl rfl rfl rfl (by kernel_rfl) Tryd.func3 (by kernel_rfl)
    (of_decide_eq_true (by kernel_rfl)) (by unfold Func.isWrapper; first | (rw [if_pos (by decide +kernel)]; kernel_rfl) | (rw [if_neg (by decide +kernel)]; exact ⟨rfl, rfl⟩))
    (fun os started H enc _ F => by rw [OpenClaim.pre_eq_preRow]; exact lifted os started H enc F)

theorem plain (f : FuncId) (fn : Func) (hf : Tryd.pinned.checked.prog.funcNamed "paymaster/paymasterlaw08.TreeExact" = some f) (hfn : Tryd.pinned.checked.prog.funcs[f]? = some fn) :
    true = Tryd.pinned.checked.prog.looks [] ∧ ∀ (j : Nat) t, fn.params[j]? = some t → Tryd.pinned.checked.prog.wantsStandIn t = false := by
  obtain rfl : f = 3 := Option.some.inj ((show Tryd.prog.funcNamed "paymaster/paymasterlaw08.TreeExact" = some 3 by kernel_rfl).symm.trans hf) |>.symm
  obtain rfl : fn = Tryd.f3 := (Option.some.inj (Tryd.func3.symm.trans hfn)).symm
  refine ⟨by kernel_rfl, fun j t ht => ?_⟩
  rw [Tryd.params3] at ht
  have hm : t ∈ [9] := by simpa using Array.mem_of_getElem? ht
  have hall : ([9].all fun u => !Tryd.prog.wantsStandIn u) = true := by kernel_rfl
  exact (show Tryd.prog.wantsStandIn t = false by simpa using List.all_eq_true.1 hall t hm)

/-- THE CARD. -/
theorem card : Rows.TreeExactCardSaid :=
  Claim7.holds_tied_plain_at .later [] _ _ _ _ said (fun _ h => by cases h) (by kernel_rfl) (fun _ h => by cases h) treeExact_row_tie rfl ⟨rfl, rfl⟩ (by kernel_rfl) rfl plain (by kernel_rfl)
end Go.Proofs.YtnolbjaeilgjhaaDoor.treeExact
