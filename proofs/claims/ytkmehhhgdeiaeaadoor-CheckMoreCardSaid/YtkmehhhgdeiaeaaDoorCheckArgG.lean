/-
  A program, and bindings, that came in: what their cells hold; how many rules memory bears.
-/
import Derived.Test.YtkmehhhgdeiaeaaDoorKT
import Derived.Test.YtkmehhhgdeiaeaaDoorLaw10RefG
import Derived.Test.YtkmehhhgdeiaeaaDoorRows
namespace Go.Proofs.YtkmehhhgdeiaeaaDoor
open Go.ChangeShapes Go.WideShapes Go.ChangeAt Go.RowKit
open PCheck (Xp Bd)

variable {H : Type} {enc : TypeId × Value → H} {w : World}
theorem cells_int10 : Program.cellsOf Tryd.prog 3 = 1 := by kernel_rfl
theorem cells_str10 : Program.cellsOf Tryd.prog 9 = 1 := by kernel_rfl
theorem cells_bind10 : Program.cellsOf Tryd.prog 43 = 2 := by kernel_rfl
theorem cells_rule10 : Program.cellsOf Tryd.prog 54 = 3 := by kernel_rfl
theorem cells_expr10 : Program.cellsOf Tryd.prog 45 = 6 := by kernel_rfl
theorem cells_prog10 : Program.cellsOf Tryd.prog 25 = 2 := by kernel_rfl
theorem cells_rules10 : Program.cellsOf Tryd.prog 22 = 1 := by kernel_rfl
theorem cells_exprs10 : Program.cellsOf Tryd.prog 23 = 1 := by kernel_rfl
theorem bytes_rule10 : Program.bytesOf Tryd.prog 54 = 40 := by kernel_rfl

theorem len_bytes (s : ByteArray) : s.data.toList.length = s.size := by simp
theorem tb_bytes (s : ByteArray) : s = ⟨s.data.toList.toArray⟩ := by simp
instance : Inhabited Bd := ⟨⟨[], 0⟩⟩
instance : Inhabited Rl10 := ⟨⟨[], [], 0⟩⟩
instance : Inhabited Xp := ⟨⟨[], [], 0, 0, 0, 0⟩⟩

set_option maxRecDepth 100000 in
theorem one_bind (n : Nat) (cs : List Value) (y : DataW H × List MemPlace) (h : DataW.trod enc Tryd.prog w 0 (fun _ => true) true n 43 cs = some y) (hl0 : cs.length = bdR.k) :
    ∃ q : Bd, q.name.length ≤ maxLen ∧ cs = bdR.C q := by
  have hl : cs.length = 2 := hl0
  obtain ⟨xs, n', _, _, _, hlen, hg⟩ := DataW.trod_struct Tryd.underlying43 h
  have h0 : DataW.trod enc Tryd.prog w 0 (fun _ => true) true n' 9 ((cs.drop 0).take (Program.cellsOf Tryd.prog 9)) = xs[0]? := hg 0 _ rfl
  have h1 : DataW.trod enc Tryd.prog w 0 (fun _ => true) true n' 3 ((cs.drop 1).take (Program.cellsOf Tryd.prog 3)) = xs[1]? := hg 1 _ rfl
  rw [cells_str10] at h0
  rw [cells_int10] at h1
  match cs, hl with
  | [u0, u1], _ =>
    match xs, hlen with
    | [x0, x1], _ =>
      obtain ⟨y0, e0, _, w0⟩ := DataW.trod_string Tryd.underlying9 (show DataW.trod enc Tryd.prog w 0 (fun _ => true) true n' 9 [u0] = some x0 by simpa using h0)
      obtain ⟨y1, e1, _, w1⟩ := DataW.trod_int Tryd.underlying3 (show DataW.trod enc Tryd.prog w 0 (fun _ => true) true n' 3 [u1] = some x1 by simpa using h1)
      simp at e0 e1
      subst e0; subst e1
      exact ⟨⟨y0.data.toList, y1⟩, (by rw [len_bytes]; exact w0), by rw [tb_bytes y0]; rfl⟩

set_option maxRecDepth 100000 in
theorem one_rule (n : Nat) (cs : List Value) (y : DataW H × List MemPlace) (h : DataW.trod enc Tryd.prog w 0 (fun _ => true) true n 54 cs = some y) (hl0 : cs.length = rlR.k) :
    ∃ q : Rl10, (q.name.length ≤ maxLen ∧ q.kind.length ≤ maxLen) ∧ cs = rlR.C q := by
  have hl : cs.length = 3 := hl0
  obtain ⟨xs, n', _, _, _, hlen, hg⟩ := DataW.trod_struct Tryd.underlying54 h
  have h0 : DataW.trod enc Tryd.prog w 0 (fun _ => true) true n' 9 ((cs.drop 0).take (Program.cellsOf Tryd.prog 9)) = xs[0]? := hg 0 _ rfl
  have h1 : DataW.trod enc Tryd.prog w 0 (fun _ => true) true n' 9 ((cs.drop 1).take (Program.cellsOf Tryd.prog 9)) = xs[1]? := hg 1 _ rfl
  have h2 : DataW.trod enc Tryd.prog w 0 (fun _ => true) true n' 3 ((cs.drop 2).take (Program.cellsOf Tryd.prog 3)) = xs[2]? := hg 2 _ rfl
  rw [cells_str10] at h0 h1
  rw [cells_int10] at h2
  match cs, hl with
  | [u0, u1, u2], _ =>
    match xs, hlen with
    | [x0, x1, x2], _ =>
      obtain ⟨y0, e0, _, w0⟩ := DataW.trod_string Tryd.underlying9 (show DataW.trod enc Tryd.prog w 0 (fun _ => true) true n' 9 [u0] = some x0 by simpa using h0)
      obtain ⟨y1, e1, _, w1⟩ := DataW.trod_string Tryd.underlying9 (show DataW.trod enc Tryd.prog w 0 (fun _ => true) true n' 9 [u1] = some x1 by simpa using h1)
      obtain ⟨y2, e2, _, w2⟩ := DataW.trod_int Tryd.underlying3 (show DataW.trod enc Tryd.prog w 0 (fun _ => true) true n' 3 [u2] = some x2 by simpa using h2)
      simp at e0 e1 e2
      subst e0; subst e1; subst e2
      exact ⟨⟨y0.data.toList, y1.data.toList, y2⟩, ⟨(by rw [len_bytes]; exact w1), (by rw [len_bytes]; exact w0)⟩, by rw [tb_bytes y0, tb_bytes y1]; rfl⟩

/-- What is known of an expression that came in. -/
def XpIn (q : Xp) : Prop := (q.name.length ≤ maxLen ∧ q.op.length ≤ maxLen) ∧ (Lit.int .i64 q.value).wf = true ∧ (Lit.int .i64 q.a).wf = true ∧ (Lit.int .i64 q.b).wf = true ∧ (Lit.int .i64 q.c).wf = true
set_option maxRecDepth 100000 in
theorem one_expr (n : Nat) (cs : List Value) (y : DataW H × List MemPlace) (h : DataW.trod enc Tryd.prog w 0 (fun _ => true) true n 45 cs = some y) (hl0 : cs.length = xpR.k) :
    ∃ q : Xp, XpIn q ∧ cs = xpR.C q := by
  have hl : cs.length = 6 := hl0
  obtain ⟨xs, n', _, _, _, hlen, hg⟩ := DataW.trod_struct Tryd.underlying45 h
  have h0 : DataW.trod enc Tryd.prog w 0 (fun _ => true) true n' 9 ((cs.drop 0).take (Program.cellsOf Tryd.prog 9)) = xs[0]? := hg 0 _ rfl
  have h1 : DataW.trod enc Tryd.prog w 0 (fun _ => true) true n' 9 ((cs.drop 1).take (Program.cellsOf Tryd.prog 9)) = xs[1]? := hg 1 _ rfl
  have h2 : DataW.trod enc Tryd.prog w 0 (fun _ => true) true n' 3 ((cs.drop 2).take (Program.cellsOf Tryd.prog 3)) = xs[2]? := hg 2 _ rfl
  have h3 : DataW.trod enc Tryd.prog w 0 (fun _ => true) true n' 3 ((cs.drop 3).take (Program.cellsOf Tryd.prog 3)) = xs[3]? := hg 3 _ rfl
  have h4 : DataW.trod enc Tryd.prog w 0 (fun _ => true) true n' 3 ((cs.drop 4).take (Program.cellsOf Tryd.prog 3)) = xs[4]? := hg 4 _ rfl
  have h5 : DataW.trod enc Tryd.prog w 0 (fun _ => true) true n' 3 ((cs.drop 5).take (Program.cellsOf Tryd.prog 3)) = xs[5]? := hg 5 _ rfl
  rw [cells_str10] at h0 h1
  rw [cells_int10] at h2 h3 h4 h5
  match cs, hl with
  | [u0, u1, u2, u3, u4, u5], _ =>
    match xs, hlen with
    | [x0, x1, x2, x3, x4, x5], _ =>
      obtain ⟨y0, e0, _, w0⟩ := DataW.trod_string Tryd.underlying9 (show DataW.trod enc Tryd.prog w 0 (fun _ => true) true n' 9 [u0] = some x0 by simpa using h0)
      obtain ⟨y1, e1, _, w1⟩ := DataW.trod_string Tryd.underlying9 (show DataW.trod enc Tryd.prog w 0 (fun _ => true) true n' 9 [u1] = some x1 by simpa using h1)
      obtain ⟨y2, e2, _, w2⟩ := DataW.trod_int Tryd.underlying3 (show DataW.trod enc Tryd.prog w 0 (fun _ => true) true n' 3 [u2] = some x2 by simpa using h2)
      obtain ⟨y3, e3, _, w3⟩ := DataW.trod_int Tryd.underlying3 (show DataW.trod enc Tryd.prog w 0 (fun _ => true) true n' 3 [u3] = some x3 by simpa using h3)
      obtain ⟨y4, e4, _, w4⟩ := DataW.trod_int Tryd.underlying3 (show DataW.trod enc Tryd.prog w 0 (fun _ => true) true n' 3 [u4] = some x4 by simpa using h4)
      obtain ⟨y5, e5, _, w5⟩ := DataW.trod_int Tryd.underlying3 (show DataW.trod enc Tryd.prog w 0 (fun _ => true) true n' 3 [u5] = some x5 by simpa using h5)
      simp at e0 e1 e2 e3 e4 e5
      subst e0; subst e1; subst e2; subst e3; subst e4; subst e5
      exact ⟨⟨y0.data.toList, y1.data.toList, y2, y3, y4, y5⟩, ⟨⟨(by rw [len_bytes]; exact w1), (by rw [len_bytes]; exact w0)⟩, w2, w3, w4, w5⟩, by rw [tb_bytes y0, tb_bytes y1]; rfl⟩

/-- Bindings that came in. -/
theorem open_binds {A : Option Addr} {n cap : Nat} {d : DataW H} {p : List MemPlace} (h : DataW.Trod enc Tryd.prog w 0 (fun _ => true) true 26 (.slice A n cap) d p) :
    ∃ l, SlX bdR w A n l ∧ (∀ b ∈ l, b.name.length ≤ maxLen) ∧ n ≤ cap ∧ (n : Int) ≤ 9223372036854775807 ∧ (A = none → cap = 0) := by
  obtain ⟨fuel, hf⟩ := h
  obtain ⟨A', n', cap', l, hcs, h1, h2, h3, h4, h5, _⟩ := slx_of_trod (R := bdR) Tryd.underlying26 cells_bind10 one_bind hf
  simp [Value.cells] at hcs
  obtain ⟨rfl, rfl, rfl⟩ := hcs
  unfold maxLen at h4
  exact ⟨l, h1, h2, h3, by omega, h5⟩


set_option maxRecDepth 100000 in
theorem open_prog {base2 : Nat} {v : Value} {d : DataW H} {p : List MemPlace} (hval : Value.okWide Tryd.prog w .any base2 25 v) (h : DataW.Trod enc Tryd.prog w 0 (fun _ => true) true 25 v d p)
    (hsz : (d.weights Tryd.prog 25).all (· ≤ reachBytes) = true) :
    ∃ RA rn rc rows A n c E, v = .agg #[.slice RA rn rc, .slice A n c] ∧ SlX rlR w RA rn rows ∧ SlX xpR w A n E ∧ rn * 40 ≤ 2 ^ 47 ∧ n ≤ c ∧ (A = none → c = 0) ∧ (∀ x ∈ E, x.name.length ≤ maxLen ∧ x.op.length ≤ maxLen) ∧ (∀ x ∈ rows, x.name.length ≤ maxLen ∧ x.kind.length ≤ maxLen) ∧ (n : Int) ≤ 9223372036854775807 ∧ (∀ x ∈ E, XpIn x) ∧ rn ≤ rc ∧ (RA = none → rc = 0) := by
  obtain ⟨cs, rfl, hsz2⟩ := okWide_struct Tryd.underlying25 hval
  obtain ⟨fuel, hf⟩ := h
  obtain ⟨xs, n, _, hx, hl, hlen, hg⟩ := DataW.trod_struct Tryd.underlying25 hf
  have h0 : DataW.trod enc Tryd.prog w 0 (fun _ => true) true n 22 (((Value.agg cs).cells.toList.drop 0).take (Program.cellsOf Tryd.prog 22)) = xs[0]? := hg 0 _ rfl
  have h1 : DataW.trod enc Tryd.prog w 0 (fun _ => true) true n 23 (((Value.agg cs).cells.toList.drop 1).take (Program.cellsOf Tryd.prog 23)) = xs[1]? := hg 1 _ rfl
  rw [cells_rules10] at h0
  rw [cells_exprs10] at h1
  rw [cells_prog10] at hsz2
  have hcs : (Value.agg cs).cells = cs := by simp [Value.cells]
  rw [hcs] at h0 h1
  obtain ⟨l⟩ := cs
  simp only [List.size_toArray] at hsz2
  match l, hsz2 with
  | [u, v], _ =>
    match xs, hlen with
    | [x0, x1], _ =>
      obtain ⟨RA, rn, rc, rows, e0, s0, s1, s2, s3, s4, s5⟩ := slx_of_trod (R := rlR) (t := 22) Tryd.underlying22 cells_rule10 one_rule (by simpa using h0)
      obtain ⟨A, m, c, E, e1, t0, t1, t2, t3, t4, _⟩ := slx_of_trod (R := xpR) (t := 23) Tryd.underlying23 cells_expr10 one_expr (by simpa using h1)
      simp at e0 e1
      subst e0; subst e1
      have hw : (x0.1.weights Tryd.prog 22).all (· ≤ reachBytes) = true := by
        simp only [Prod.mk.injEq] at hx
        rw [hx.1] at hsz
        have hw2 : DataW.weights Tryd.prog 25 (.agg ([x0, x1].map (·.1))) = x0.1.weights Tryd.prog 22 ++ (x1.1.weights Tryd.prog 23 ++ []) := by
          simp only [DataW.weights, Tryd.underlying25]
          rfl
        rw [hw2, List.all_append, Bool.and_eq_true] at hsz
        exact hsz.1
      have s6 := s5 hw
      rw [bytes_rule10] at s6
      unfold reachBytes at s6
      unfold maxLen at t3
      exact ⟨RA, rn, rc, rows, A, m, c, E, rfl, s0, t0, by omega, t2, t4, fun x hx => (t1 x hx).1, s1, by omega, t1, s2, s4⟩
end Go.Proofs.YtkmehhhgdeiaeaaDoor
