/-
  Payments in cells; a file that came in.
-/
import Derived.Test.YtbnnmakmgleikaaDoorTrodKit
import Derived.Test.YtbnnmakmgleikaaDoorBkMath
namespace Go.Proofs.YtbnnmakmgleikaaDoor
open Go.ChangeShapes Go.WideShapes Go.ChangeAt Go.RowKit
open PBank (Pay)

def payR : Rec Pay := ⟨fun p => [.int .u8 p.kind, .int .i64 p.num, .int .i64 p.amt], 3, by decide, fun _ => rfl, fun x u hu => by
  simp at hu; rcases hu with rfl | rfl | rfl <;> rfl⟩
/-- What the parts of a payment may be. -/
def PayIn (p : Pay) : Prop := (0 ≤ p.kind ∧ p.kind ≤ 255) ∧ (-9223372036854775808 ≤ p.num ∧ p.num ≤ 9223372036854775807) ∧ (-9223372036854775808 ≤ p.amt ∧ p.amt ≤ 9223372036854775807)
theorem pay_cell {w : World} {b o n : Nat} {l : List Pay} (h : SlX payR w (some ⟨b, o, none⟩) n l) {i : Nat} (hi : i < n) {p : Pay} (hp : l[i]? = some p) :
    w.cell? ⟨b, o + i * 3, none⟩ = some (.int .u8 p.kind) ∧ w.cell? ⟨b, o + i * 3 + 1, none⟩ = some (.int .i64 p.num) ∧ w.cell? ⟨b, o + i * 3 + 2, none⟩ = some (.int .i64 p.amt) := by
  obtain ⟨b', o', e, hc⟩ := h.at hi
  cases e
  have hl : i < l.length := by rw [h.1]; exact hi
  have e : l[i] = p := by rw [List.getElem?_eq_getElem hl] at hp; exact Option.some.inj hp
  have c0 := hc i hl 0; have c1 := hc i hl 1; have c2 := hc i hl 2
  rw [e] at c0 c1 c2
  exact ⟨c0 _ rfl, c1 _ rfl, c2 _ rfl⟩
variable {H : Type} {enc : TypeId × Value → H} {w : World}
theorem cells_intB : Program.cellsOf Tryd.prog 3 = 1 := by kernel_rfl
theorem cells_u8B : Program.cellsOf Tryd.prog 5 = 1 := by kernel_rfl
theorem cells_payB : Program.cellsOf Tryd.prog 44 = 3 := by kernel_rfl
theorem cells_fileB : Program.cellsOf Tryd.prog 24 = 2 := by kernel_rfl
theorem cells_paysB : Program.cellsOf Tryd.prog 22 = 1 := by kernel_rfl
set_option maxRecDepth 100000 in
theorem one_pay (n : Nat) (cs : List Value) (y : DataW H × List MemPlace) (h : DataW.trod enc Tryd.prog w 0 (fun _ => true) true n 44 cs = some y) (hl0 : cs.length = payR.k) :
    ∃ q : Pay, PayIn q ∧ cs = payR.C q := by
  have hl : cs.length = 3 := hl0
  obtain ⟨xs, n', _, _, _, hlen, hg⟩ := DataW.trod_struct Tryd.underlying44 h
  have h0 : DataW.trod enc Tryd.prog w 0 (fun _ => true) true n' 5 ((cs.drop 0).take (Program.cellsOf Tryd.prog 5)) = xs[0]? := hg 0 _ rfl
  have h1 : DataW.trod enc Tryd.prog w 0 (fun _ => true) true n' 3 ((cs.drop 1).take (Program.cellsOf Tryd.prog 3)) = xs[1]? := hg 1 _ rfl
  have h2 : DataW.trod enc Tryd.prog w 0 (fun _ => true) true n' 3 ((cs.drop 2).take (Program.cellsOf Tryd.prog 3)) = xs[2]? := hg 2 _ rfl
  rw [cells_u8B] at h0
  rw [cells_intB] at h1 h2
  match cs, hl with
  | [u0, u1, u2], _ =>
    match xs, hlen with
    | [x0, x1, x2], _ =>
      obtain ⟨y0, e0, _, w0⟩ := DataW.trod_int Tryd.underlying5 (show DataW.trod enc Tryd.prog w 0 (fun _ => true) true n' 5 [u0] = some x0 by simpa using h0)
      obtain ⟨y1, e1, _, w1⟩ := DataW.trod_int Tryd.underlying3 (show DataW.trod enc Tryd.prog w 0 (fun _ => true) true n' 3 [u1] = some x1 by simpa using h1)
      obtain ⟨y2, e2, _, w2⟩ := DataW.trod_int Tryd.underlying3 (show DataW.trod enc Tryd.prog w 0 (fun _ => true) true n' 3 [u2] = some x2 by simpa using h2)
      simp at e0 e1 e2
      subst e0; subst e1; subst e2
      exact ⟨⟨y0, y1, y2⟩, ⟨u8_bounds w0, i64_bounds w1, i64_bounds w2⟩, rfl⟩
set_option maxRecDepth 100000 in
theorem open_file {base2 : Nat} {v : Value} {d : DataW H} {p : List MemPlace} (hval : Value.okWide Tryd.prog w .any base2 24 v) (h : DataW.Trod enc Tryd.prog w 0 (fun _ => true) true 24 v d p) :
    ∃ per A n c l, v = .agg #[.int .i64 per, .slice A n c] ∧ SlX payR w A n l ∧ (∀ q ∈ l, PayIn q) ∧ (-9223372036854775808 ≤ per ∧ per ≤ 9223372036854775807) ∧ n ≤ c ∧ (c : Int) ≤ 9223372036854775807 ∧ (A = none → c = 0) := by
  obtain ⟨cs, rfl, hsz2⟩ := okWide_struct Tryd.underlying24 hval
  obtain ⟨fuel, hf⟩ := h
  obtain ⟨xs, n, _, hx, hl, hlen, hg⟩ := DataW.trod_struct Tryd.underlying24 hf
  have h0 : DataW.trod enc Tryd.prog w 0 (fun _ => true) true n 3 (((Value.agg cs).cells.toList.drop 0).take (Program.cellsOf Tryd.prog 3)) = xs[0]? := hg 0 _ rfl
  have h1 : DataW.trod enc Tryd.prog w 0 (fun _ => true) true n 22 (((Value.agg cs).cells.toList.drop 1).take (Program.cellsOf Tryd.prog 22)) = xs[1]? := hg 1 _ rfl
  rw [cells_intB] at h0
  rw [cells_paysB] at h1
  rw [cells_fileB] at hsz2
  have hcs : (Value.agg cs).cells = cs := by simp [Value.cells]
  rw [hcs] at h0 h1
  obtain ⟨l⟩ := cs
  simp only [List.size_toArray] at hsz2
  match l, hsz2 with
  | [u, v], _ =>
    match xs, hlen with
    | [x0, x1], _ =>
      obtain ⟨y0, e0, _, w0⟩ := DataW.trod_int Tryd.underlying3 (show DataW.trod enc Tryd.prog w 0 (fun _ => true) true n 3 [u] = some x0 by simpa using h0)
      obtain ⟨A, m, c, E, e1, t0, t1, t2, t3, t4, _⟩ := slx_of_trod (R := payR) (t := 22) Tryd.underlying22 cells_payB one_pay (by simpa using h1)
      simp at e0 e1
      subst e0; subst e1
      unfold maxLen at t3
      exact ⟨y0, A, m, c, E, rfl, t0, t1, i64_bounds w0, t2, by omega, t4⟩
end Go.Proofs.YtbnnmakmgleikaaDoor
