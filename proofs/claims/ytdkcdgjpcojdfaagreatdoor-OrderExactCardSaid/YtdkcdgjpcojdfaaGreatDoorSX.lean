/-
  What the landed show answers: the text of any program, or an error.
  Which rules of what was read hang on which: by marks, and by the rows that stand in a rule's place. Plain facts; no program is named here.
  What the landed show answers of what was read: its text.
-/
import Derived.Test.YtdkcdgjpcojdfaaGreatDoorShowOrderG
import Derived.Test.YtdkcdgjpcojdfaaGreatDoorTQ
import Derived.Test.YtdkcdgjpcojdfaaGreatDoorSM

set_option linter.unusedVariables false
namespace Go.Proofs.YtdkcdgjpcojdfaaGreatDoor
open Go.RowKit
open PCheck (Xp)
open PTree (R Ex Tr Rl Row)

def rwX (rs : List Rl) : List Rw := (PTree.rowsOf 0 rs).map fun r => (r.kind, r.name, ((r.root : Nat) : Int))
def xpX (rs : List Rl) : List Xp := (PTree.exprsOf 0 rs).map PShow.exX
theorem slx_map {α β : Type} {R : Rec α} {R' : Rec β} (g : α → β) (hk : R'.k = R.k) (hC : ∀ x, R'.C (g x) = R.C x) {w : World} {A : Option Addr} {n : Nat} {l : List α} (h : SlX R w A n l) : SlX R' w A n (l.map g) := by
  obtain ⟨h1, h2⟩ := h
  refine ⟨by rw [List.length_map]; exact h1, ?_⟩
  rcases h2 with h2 | ⟨b, off, e, hc⟩
  · exact .inl h2
  · refine .inr ⟨b, off, e, fun i hi j v hv => ?_⟩
    rw [hk]
    refine hc i (by rw [List.length_map] at hi; exact hi) j v ?_
    rw [← hC]
    simpa using hv
theorem slx_rw {w : World} {A : Option Addr} {n : Nat} {rs : List Rl} (h : SlX rowR w A n (PTree.rowsOf 0 rs)) : SlX rlR w A n (rwX rs) := slx_map (R' := rlR) (fun r : Row => ((r.kind, r.name, ((r.root : Nat) : Int)) : Rw)) rfl (fun _ => rfl) h
theorem slx_xpX {w : World} {A : Option Addr} {n : Nat} {rs : List Rl} (h : SlX exR w A n (PTree.exprsOf 0 rs)) : SlX xpR w A n (xpX rs) := slx_map (R' := xpR) PShow.exX rfl (fun _ => rfl) h
def textOf (E : List Xp) (RL : List Rw) : Option (List UInt8) :=
  if inOrd E RL then
    match PTree.parse (PShow.linesTx E RL) with
    | some (.ok _ rs) => if rwX rs = RL ∧ xpX rs = E then some (PShow.linesTx E RL) else none
    | _ => none
  else none
def TextAns (r : Option (List UInt8)) (w : World) (e : Ending) (w' : World) : Prop := (e = match r with
  | some t => .returned (.tuple #[.string ⟨t.toArray⟩, .int .i64 0])
  | none => .returned (.tuple #[.string { data := #[] }, .int .i64 1])) ∧ Below w.heap.size w w'
set_option maxHeartbeats 12800000 in
set_option maxRecDepth 100000 in
theorem ktext_any {w : World} {n c rn rc : Nat} {A RA : Option Addr} {E : List Xp} {RL : List Rw} (hR : SlX rlR w RA rn RL) (hE : SlX xpR w A n E) (ht : Tab w) (hn9 : n ≤ 990) (hrn : rn ≤ 1000)
    (hv : ∀ x ∈ E, -9223372036854775808 ≤ x.value ∧ x.value ≤ 9223372036854775807) (hc : inOrd E RL = true → (∀ r ∈ RL, PShow.cnt E r.2.2.toNat < 10000) ∧ (PShow.linesTx E RL).length ≤ 4000) :
    Calls Tryz.prog 30 #[.agg #[.slice RA rn rc, .slice A n c]] w (TextAns (textOf E RL) w) := by
  obtain ⟨Q, hQ⟩ : ∃ Q, TextAns (textOf E RL) w = Q := ⟨_, rfl⟩
  rw [hQ]
  have BAD : Hid (∀ w', textOf E RL = none → Below w.heap.size w w' → Q (.returned (.tuple #[.string { data := #[] }, .int .i64 1])) w') := Lib.hid (fun w' e a => by rw [← hQ, e]; exact ⟨rfl, a⟩)
  have GOOD : Hid (∀ w', textOf E RL = some (PShow.linesTx E RL) → Below w.heap.size w w' → Q (.returned (.tuple #[.string ⟨(PShow.linesTx E RL).toArray⟩, .int .i64 0])) w') := Lib.hid (fun w' e a => by rw [← hQ, e]; exact ⟨rfl, a⟩)
  obtain ⟨w1, hw1, XB, b1⟩ : ∃ w1, w.alloc (.cells #[.slice RA rn rc, .slice A n c] 32) = w1 ∧ Box w1 w.heap.size [.slice RA rn rc, .slice A n c] ∧ Below w.heap.size w w1 := ⟨_, rfl, Box.new _ _ [.slice RA rn rc, .slice A n c], (Below.refl _ _).alloc (Nat.le_refl _) _⟩
  have HR := Lib.hid (hR.on b1); have HE := Lib.hid (hE.on b1); have HT := Lib.hid (ht.on b1); have HXB := Lib.hid XB; have B1 := Lib.hid b1; have HW1 := Lib.hid hw1; have HV := Lib.hid hv; have HC := Lib.hid hc
  have IO := Lib.hid (kinOrder_any (rc := rc) (c := c) HR.out HE.out hn9 (by omega))
  obtain ⟨x0, x1⟩ := px2 XB
  have hsx := XB.1
  clear hR hE ht XB b1 hw1 hv hc hQ
  go_enter Tryz.func30, Tryz.ntmps30
  go_upto_region 1 with fail
  rw [HW1.out]
  go_wp2_with (go_at_call 56; refine IO.out.mono ?_)
  intro e2 w2 h2
  obtain ⟨rfl, b2⟩ := h2
  have X2 := HXB.out.on b2
  have R2 := Lib.hid (HR.out.on b2); have E2 := Lib.hid (HE.out.on b2); have T2 := Lib.hid (HT.out.on b2); have HX2 := Lib.hid X2
  have B2 := Lib.hid (below_step B1.out b2)
  clear b2 x0 x1 hsx IO HR HE HT HXB
  obtain ⟨x0, x1⟩ := px2 X2
  have hsx := X2.1
  clear X2
  cases hio : inOrd E RL with
  | false =>
    have HN : Hid (textOf E RL = none) := Lib.hid (by unfold textOf; rw [hio]; rfl)
    clear hio
    go_wp2_with fail
    exact BAD.out _ HN.out B2.out
  | true =>
    have hord : PShow.ord E 0 [] = some (RL.map fun r => r.2.2) := by unfold inOrd at hio; exact of_decide_eq_true hio
    obtain ⟨hA, -, hroots⟩ := PShow.ord_all hord
    obtain ⟨hcn, hln⟩ := HC.out hio
    have hEn : E.length = n := E2.out.1
    have LN := Lib.hid (klines_any (rc := rc) (c := c) R2.out E2.out T2.out hA HV.out (fun r hr => by
      have h := hroots r.2.2 (List.mem_map.2 ⟨r, hr, rfl⟩)
      exact ⟨h.1, by omega, hcn r hr⟩) (by omega) (by omega))
    have HIO := Lib.hid hio
    obtain ⟨T, hT⟩ : ∃ T, PShow.linesTx E RL = T := ⟨_, rfl⟩
    rw [hT] at LN hln GOOD
    have HTT := Lib.hid hT
    have HLN := Lib.hid hln
    clear hio hord hA hroots hcn hln hEn hT
    go_wp2_with (go_at_call 57; refine LN.out.mono ?_)
    intro e3 w3 h3
    obtain ⟨rfl, b3⟩ := h3
    have HX3 := Lib.hid (HX2.out.on b3)
    have R3 := Lib.hid (R2.out.on b3); have E3 := Lib.hid (E2.out.on b3)
    have B3 := Lib.hid (below_step B2.out b3)
    clear b3 x0 x1 hsx LN R2 E2 T2 HX2
    have PA := tparse_any ⟨T.toArray⟩ w3 (by simpa [ByteArray.size] using HLN.out)
    have eT : (ByteArray.mk T.toArray).data.toList = T := by simp
    rw [eT] at PA
    have HPA := Lib.hid PA
    clear PA eT
    go_wp2_with (go_at_call 10; refine HPA.out.mono ?_)
    intro e4 w4 h4
    obtain ⟨b4, h4⟩ := h4
    have HX4 := Lib.hid (HX3.out.on b4)
    have R4 := Lib.hid (R3.out.on b4); have E4 := Lib.hid (E3.out.on b4)
    have B4 := Lib.hid (below_step B3.out b4)
    clear b4 R3 E3 HX3 HPA
    cases hp : PTree.parse T with
    | none => rw [hp] at h4; exact h4.elim
    | some r =>
      rw [hp] at h4
      cases r with
      | bad k q =>
        obtain ⟨rfl, hk0⟩ := h4
        have HN : Hid (textOf E RL = none) := Lib.hid (by unfold textOf; rw [HIO.out, HTT.out, hp]; rfl)
        obtain ⟨w5, hw5, YB, b5⟩ : ∃ w5, w4.alloc (.cells #[.slice none 0 0, .slice none 0 0] 32) = w5 ∧ Box w5 w4.heap.size [.slice none 0 0, .slice none 0 0] ∧ Below w4.heap.size w4 w5 := ⟨_, rfl, Box.new _ _ [.slice none 0 0, .slice none 0 0], (Below.refl _ _).alloc (Nat.le_refl _) _⟩
        obtain ⟨w6, hw6, Y6, ON6⟩ := store2 YB (.slice none 0 0) (.slice none 0 0)
        have B6 := Lib.hid (below_step B4.out (ON6.below (Nat.le_refl _) b5))
        obtain ⟨y0, y1⟩ := px2 YB
        obtain ⟨z0, z1⟩ := px2f YB
        have hs5 := YB.1
        have HW6 := Lib.hid hw6
        have gk : ((k : Int) == 0) = false := by rw [beq_eq_false_iff_ne]; omega
        clear hp YB Y6 ON6 b5 hw6
        go_upto_region 5 with fail
        rw [HW6.out]
        clear HW6 hw5 y0 y1 z0 z1 hs5
        go_wp2_with fail
        exact BAD.out _ HN.out B6.out
      | ok t rs =>
        obtain ⟨QA, ca, QB, cb, rfl, -, -, s1, s2⟩ := h4
        have hfew := PTree.parse_fewP hp
        have hf2 := HLN.out
        obtain ⟨w5, hw5, YB, b5⟩ : ∃ w5, w4.alloc (.cells #[.slice none 0 0, .slice none 0 0] 32) = w5 ∧ Box w5 w4.heap.size [.slice none 0 0, .slice none 0 0] ∧ Below w4.heap.size w4 w5 := ⟨_, rfl, Box.new _ _ [.slice none 0 0, .slice none 0 0], (Below.refl _ _).alloc (Nat.le_refl _) _⟩
        obtain ⟨w6, hw6, Y6, ON6⟩ := store2 YB (.slice QA rs.length ca) (.slice QB (PTree.sizeOf rs) cb)
        have b6 := ON6.below (Nat.le_refl _) b5
        have B6 := Lib.hid (below_step B4.out b6)
        obtain ⟨y0, y1⟩ := px2 YB
        obtain ⟨z0, z1⟩ := px2f YB
        have hs5 := YB.1
        have HW6 := Lib.hid hw6
        have X6 := HX4.out.on b6
        obtain ⟨x0, x1⟩ := px2 X6
        have hsx := X6.1
        obtain ⟨q0, q1⟩ := px2 Y6
        have hsq := Y6.1
        have HX6 := Lib.hid X6; have HY6 := Lib.hid Y6
        obtain ⟨rl, hrl⟩ : ∃ rl, rs.length = rl := ⟨_, rfl⟩
        obtain ⟨sz, hsz⟩ : ∃ sz, PTree.sizeOf rs = sz := ⟨_, rfl⟩
        rw [hrl] at s1 q0 hw6 HW6 HY6 hfew
        rw [hsz] at s2 q1 hw6 HW6 HY6 hfew
        rw [hrl, hsz]
        have KR := kequal_rules (c1 := ca) (c2 := rc) ((slx_rw s1).on b6) (R4.out.on b6) (by omega) (by omega)
        have KX := Lib.hid (fun (wa : World) (b : Below w6.heap.size w6 wa) => kequal_exprs (c1 := cb) (c2 := c) (((slx_xpX s2).on b6).on b) ((E4.out.on b6).on b) (by omega) (by omega))
        obtain ⟨p1, hp1⟩ : ∃ b, decide (rwX rs = RL) = b := ⟨_, rfl⟩
        obtain ⟨p2, hp2⟩ : ∃ b, decide (xpX rs = E) = b := ⟨_, rfl⟩
        rw [hp1] at KR
        rw [hp2] at KX
        have KR := Lib.hid KR
        have HP1 := Lib.hid hp1; have HP2 := Lib.hid hp2; have HP := Lib.hid hp
        clear hp1 hp2 hp s1 s2 YB Y6 ON6 b5 b6 hw6 X6 hfew hf2 hrl hsz
        go_upto_region 5 with fail
        rw [HW6.out]
        clear HW6 hw5 y0 y1 z0 z1 hs5
        cases p1 with
        | false =>
          have h1 : ¬ rwX rs = RL := of_decide_eq_false HP1.out
          have HN : Hid (textOf E RL = none) := Lib.hid (by
            unfold textOf; rw [HIO.out, HTT.out, HP.out]
            simp only [if_true]
            rw [if_neg (fun h => h1 h.1)])
          clear h1
          go_wp2_with (go_at_call 58; refine KR.out.mono ?_)
          intro e7 w7 h7
          obtain ⟨rfl, b7⟩ := h7
          have B7 := Lib.hid (below_step B6.out b7)
          clear b7
          go_wp2_with fail
          exact BAD.out _ HN.out B7.out
        | true =>
          go_wp2_with (go_at_call 58; refine KR.out.mono ?_)
          intro e7 w7 h7
          obtain ⟨rfl, b7⟩ := h7
          have B7 := Lib.hid (below_step B6.out b7)
          have K7 := Lib.hid (KX.out w7 b7)
          have X7 := HX6.out.on b7
          have Y7 := HY6.out.on b7
          clear b7 x0 x1 hsx q0 q1 hsq KX KR
          obtain ⟨x0, x1⟩ := px2 X7
          have hsx := X7.1
          obtain ⟨q0, q1⟩ := px2 Y7
          have hsq := Y7.1
          clear X7 Y7
          cases p2 with
          | false =>
            have h1 : ¬ xpX rs = E := of_decide_eq_false HP2.out
            have HN : Hid (textOf E RL = none) := Lib.hid (by
              unfold textOf; rw [HIO.out, HTT.out, HP.out]
              simp only [if_true]
              rw [if_neg (fun h => h1 h.2)])
            clear h1
            go_wp2_with (go_at_call 59; refine K7.out.mono ?_)
            intro e8 w8 h8
            obtain ⟨rfl, b8⟩ := h8
            have B8 := Lib.hid (below_step B7.out b8)
            clear b8
            go_wp2_with fail
            exact BAD.out _ HN.out B8.out
          | true =>
            have h1 : rwX rs = RL := of_decide_eq_true HP1.out
            have h2 : xpX rs = E := of_decide_eq_true HP2.out
            have HN : Hid (textOf E RL = some T) := Lib.hid (by
              unfold textOf; rw [HIO.out, HTT.out, HP.out]
              simp only [if_true]
              rw [if_pos ⟨h1, h2⟩])
            clear h1 h2
            go_wp2_with (go_at_call 59; refine K7.out.mono ?_)
            intro e8 w8 h8
            obtain ⟨rfl, b8⟩ := h8
            have B8 := Lib.hid (below_step B7.out b8)
            clear b8
            go_wp2_with fail
            exact GOOD.out _ HN.out B8.out
end Go.Proofs.YtdkcdgjpcojdfaaGreatDoor

set_option linter.unusedVariables false
namespace Go.Proofs.YtdkcdgjpcojdfaaGreatDoor
open Go.RowKit
open PCheck (Xp Bd made)
open PTree (Tr Rl Ex Wf X0 opsL Row)
open PShow (exX Lies lies_app)

def offs (rs : List Rl) (i : Nat) : Nat := PTree.sizeOf (rs.take i)
theorem offs_zero (rs : List Rl) : offs rs 0 = 0 := by unfold offs PTree.sizeOf; simp
theorem offs_succ {rs : List Rl} {i : Nat} {r : Rl} (h : rs[i]? = some r) : offs rs (i + 1) = offs rs i + r.tree.size := by
  unfold offs PTree.sizeOf
  rw [List.take_add_one, h]
  simp
theorem size_split (rs : List Rl) (i : Nat) : PTree.sizeOf rs = offs rs i + PTree.sizeOf (rs.drop i) := by
  unfold offs PTree.sizeOf
  conv => lhs; rw [← List.take_append_drop i rs]
  rw [List.map_append, List.sum_append]
theorem offs_le {rs : List Rl} {i : Nat} {r : Rl} (h : rs[i]? = some r) : offs rs i + r.tree.size ≤ PTree.sizeOf rs := by
  rw [← offs_succ h, size_split rs (i + 1)]; omega
theorem exprs_at {rs : List Rl} : ∀ (i o : Nat) (r : Rl), rs[i]? = some r → ∀ j x, (r.tree.flat (o + offs rs i))[j]? = some x → (PTree.exprsOf o rs)[offs rs i + j]? = some x := by
  induction rs with
  | nil => intro i o r h; cases h
  | cons q rs ih =>
    intro i o r h j x hx
    cases i with
    | zero =>
      obtain rfl : q = r := by simpa using h
      rw [offs_zero, Nat.add_zero] at hx
      rw [offs_zero, Nat.zero_add]
      simp only [PTree.exprsOf]
      rw [List.getElem?_append_left (List.getElem?_eq_some_iff.1 hx).1]; exact hx
    | succ i =>
      have e : offs (q :: rs) (i + 1) = q.tree.size + offs rs i := by unfold offs PTree.sizeOf; simp
      rw [e] at hx ⊢
      rw [← Nat.add_assoc] at hx
      have := ih i (o + q.tree.size) r (by simpa using h) j x hx
      simp only [PTree.exprsOf]
      rw [List.getElem?_append_right (by rw [Tr.flat_len]; omega), Tr.flat_len, show q.tree.size + offs rs i + j - q.tree.size = offs rs i + j by omega]
      exact this
theorem lies_at {rs : List Rl} {i : Nat} {r : Rl} (h : rs[i]? = some r) : Lies (xpX rs) (offs rs i) (r.tree.flat (offs rs i)) := by
  intro k x hx
  have := exprs_at i 0 r h k x (by rw [Nat.zero_add]; exact hx)
  unfold xpX
  rw [List.getElem?_map, this]; rfl
theorem rows_at' : ∀ (rs : List Rl) (i o : Nat) (r : Rl), rs[i]? = some r → (PTree.rowsOf o rs)[i]? = some ⟨r.kind, r.name, o + offs rs i + r.tree.size - 1⟩
  | [], i, o, r, h => by cases h
  | q :: rs, 0, o, r, h => by
    obtain rfl : q = r := by simpa using h
    rw [offs_zero]; rfl
  | q :: rs, i + 1, o, r, h => by
    have e : offs (q :: rs) (i + 1) = q.tree.size + offs rs i := by unfold offs PTree.sizeOf; simp
    have := rows_at' rs i (o + q.tree.size) r (by simpa using h)
    simp only [PTree.rowsOf, List.getElem?_cons_succ]
    rw [this, e]
    simp only [Option.some.injEq, Row.mk.injEq, true_and]
    omega
theorem rw_at {rs : List Rl} {i : Nat} {r : Rl} (h : rs[i]? = some r) : (rwX rs)[i]? = some (r.kind, r.name, ((offs rs i + r.tree.size - 1 : Nat) : Int)) := by
  unfold rwX
  rw [List.getElem?_map, rows_at' rs i 0 r h, Nat.zero_add]; rfl
theorem hang_rows {rs : List Rl} (hW : ∀ r ∈ rs, Wf X0 r.tree) {i k : Nat} {r q : Rl} (hi : rs[i]? = some r) (hk : rs[k]? = some q) :
    POrd.hangs rs i k = true ↔ ∃ (j : Nat) (x : Xp), offs rs i ≤ j ∧ j < offs rs i + r.tree.size ∧ (xpX rs)[j]? = some x ∧ x.op = PCheck.nameS ∧ x.name = q.name := by
  unfold POrd.hangs
  rw [hi, hk]
  simp only []
  rw [List.contains_eq_mem, decide_eq_true_eq, ← POrd.nmE_flat r.tree (offs rs i) (hW r (List.mem_of_getElem? hi)), POrd.nmE_mem]
  have hl := lies_at hi
  constructor
  · rintro ⟨x, hx, h1, h2⟩
    obtain ⟨j, hj, rfl⟩ := List.getElem_of_mem hx
    rw [Tr.flat_len] at hj
    exact ⟨offs rs i + j, _, by omega, by omega, hl j _ (List.getElem?_eq_getElem _), h1, h2⟩
  · rintro ⟨j, x, h1, h2, h3, h4, h5⟩
    have hj : j - offs rs i < (r.tree.flat (offs rs i)).length := by rw [Tr.flat_len]; omega
    have := hl (j - offs rs i) _ (List.getElem?_eq_getElem hj)
    rw [show offs rs i + (j - offs rs i) = j by omega, h3] at this
    cases this
    exact ⟨_, List.getElem_mem hj, h4, h5⟩
theorem hang_marks {rs : List Rl} (hW : ∀ r ∈ rs, Wf X0 r.tree) {i : Nat} {r : Rl} (hi : rs[i]? = some r) : ∃ m, made (xpX rs) (offs rs i + r.tree.size - 1) = some m ∧ m.length = offs rs i + r.tree.size ∧ (∀ j, m[j]? = some true ↔ offs rs i ≤ j ∧ j < offs rs i + r.tree.size) ∧
    ∀ k q, rs[k]? = some q → (POrd.hangs rs i k = true ↔ ∃ (j : Nat) (x : Xp), m[j]? = some true ∧ (xpX rs)[j]? = some x ∧ x.op = PCheck.nameS ∧ x.name = q.name) := by
  obtain ⟨m, h1, h2, h3⟩ := POrd.tree_made (hW r (List.mem_of_getElem? hi)) (lies_at hi)
  refine ⟨m, h1, h2, h3, fun k q hk => ?_⟩
  rw [hang_rows hW hi hk]
  constructor
  · rintro ⟨j, x, g1, g2, g3⟩; exact ⟨j, x, (h3 j).2 ⟨g1, g2⟩, g3⟩
  · rintro ⟨j, x, g1, g3⟩; exact ⟨j, x, ((h3 j).1 g1).1, ((h3 j).1 g1).2, g3⟩
end Go.Proofs.YtdkcdgjpcojdfaaGreatDoor

set_option linter.unusedVariables false
namespace Go.Proofs.YtdkcdgjpcojdfaaGreatDoor
open Go.RowKit
open PCheck (Xp)
open PTree (R Ex Tr Rl Row)
open PShow (Got got)

theorem read_in {s : List UInt8} {rs : List Rl} (h : Got s rs) : inOrd (xpX rs) (rwX rs) = true ∧ PShow.linesTx (xpX rs) (rwX rs) = PTree.textB rs ∧ PShow.Ahead (xpX rs) := by
  obtain ⟨h1, h2, h3⟩ := PShow.read_lines (fun r hr => (h.wf r hr).2.2.2.1)
  refine ⟨?_, h3, h2⟩
  unfold inOrd
  rw [decide_eq_true_eq]
  refine h1.trans ?_
  rw [← PShow.rows_roots]
  unfold rwX
  rw [List.map_map]
  rfl
theorem read_text {s : List UInt8} {t : List PLex.Tok} {rs : List Rl} (h : PTree.parse s = some (.ok t rs)) : textOf (xpX rs) (rwX rs) = some (PTree.textB rs) := by
  obtain ⟨h1, h2, _⟩ := read_in (got h)
  unfold textOf
  rw [h1, h2, PTree.parse_back h]
  simp
theorem xpX_len (rs : List Rl) : (xpX rs).length = PTree.sizeOf rs := by unfold xpX; rw [List.length_map]; exact PTree.exprsOf_len 0 rs
theorem rwX_len (rs : List Rl) : (rwX rs).length = rs.length := by
  unfold rwX; rw [List.length_map]
  have : ∀ (rs : List Rl) (o : Nat), (PTree.rowsOf o rs).length = rs.length := by
    intro rs
    induction rs with
    | nil => intro o; rfl
    | cons r rs ih => intro o; simp [PTree.rowsOf, ih]
  exact this rs 0
theorem read_vals {s : List UInt8} {rs : List Rl} (h : Got s rs) : ∀ x ∈ xpX rs, -9223372036854775808 ≤ x.value ∧ x.value ≤ 9223372036854775807 := by
  intro x hx
  obtain ⟨y, hy, rfl⟩ := List.mem_map.1 hx
  obtain ⟨⟨h1, h2⟩, -⟩ := h.vals y hy
  exact ⟨by show _ ≤ y.value; omega, h2⟩
theorem read_prem {s : List UInt8} {t : List PLex.Tok} {rs : List Rl} (h : PTree.parse s = some (.ok t rs)) (hs : s.length ≤ 500) :
    PTree.sizeOf rs ≤ 500 ∧ rs.length ≤ 500 ∧ ((∀ r ∈ rwX rs, PShow.cnt (xpX rs) r.2.2.toNat < 10000) ∧ (PShow.linesTx (xpX rs) (rwX rs)).length ≤ 4000) ∧
    ∀ k, k < PTree.sizeOf rs → PShow.cnt (xpX rs) k < 10000 ∧ (PShow.tx (xpX rs) k).length ≤ 4500 := by
  have hf := PTree.parse_fewP h
  have g := got h
  obtain ⟨h1, h2, _⟩ := read_in g
  have ho := of_decide_eq_true (show decide _ = true from h1)
  have hl := xpX_len rs
  have hc : ∀ k, k < PTree.sizeOf rs → PShow.cnt (xpX rs) k < 10000 := fun k hk => by
    have := PShow.ord_cnt ho (k := k) (by omega)
    omega
  have hown := g.own
  have ht := (PShow.ord_tx ho).2
  have e : ((xpX rs).map PShow.own).sum = ((PTree.exprsOf 0 rs).map fun x => PShow.own (PShow.exX x)).sum := by unfold xpX; rw [List.map_map]; rfl
  refine ⟨by omega, by omega, ⟨fun r hr => ?_, by rw [h2]; have := g.len; omega⟩, fun k hk => ⟨hc k hk, by have := ht k (by omega); omega⟩⟩
  have hr2 := (PShow.ord_all ho).2.2 r.2.2 (List.mem_map.2 ⟨r, hr, rfl⟩)
  exact hc _ (by omega)
end Go.Proofs.YtdkcdgjpcojdfaaGreatDoor
