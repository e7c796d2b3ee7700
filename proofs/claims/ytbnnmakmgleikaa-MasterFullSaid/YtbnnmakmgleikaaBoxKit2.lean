/-
  A block of six, or of three cells: what they hold, through stores.
-/
import Derived.Test.YtbnnmakmgleikaaBoxKit
namespace Go.Proofs.Ytbnnmakmgleikaa
open Go.RowKit
theorem box6f {w : World} {H : Nat} {a b c d e f : Value} (h : Box w H [a, b, c, d, e, f]) : w.frozen? ⟨H, 0, none⟩ = false ∧ w.frozen? ⟨H, 1, none⟩ = false ∧ w.frozen? ⟨H, 2, none⟩ = false ∧ w.frozen? ⟨H, 3, none⟩ = false ∧ w.frozen? ⟨H, 4, none⟩ = false ∧ w.frozen? ⟨H, 5, none⟩ = false :=
  ⟨h.f 0 rfl, h.f 1 rfl, h.f 2 rfl, h.f 3 rfl, h.f 4 rfl, h.f 5 rfl⟩
theorem box3 {w : World} {H : Nat} {a b c : Value} (h : Box w H [a, b, c]) : w.cell? ⟨H, 0, none⟩ = some a ∧ w.cell? ⟨H, 1, none⟩ = some b ∧ w.cell? ⟨H, 2, none⟩ = some c := ⟨h.c 0 rfl, h.c 1 rfl, h.c 2 rfl⟩
/-- All six cells are stored: the world behind. -/
theorem store6 {w : World} {H : Nat} {a b c d e f : Value} (h : Box w H [a, b, c, d, e, f]) (a' b' c' d' e' f' : Value) :
    ∃ w', ((((((w.setCell ⟨H, 0, none⟩ a').setCell ⟨H, 1, none⟩ b').setCell ⟨H, 2, none⟩ c').setCell ⟨H, 3, none⟩ d').setCell ⟨H, 4, none⟩ e').setCell ⟨H, 5, none⟩ f') = w' ∧ Box w' H [a', b', c', d', e', f'] ∧ Only H w w' :=
  ⟨_, rfl, (((((h.set 0 (by simp) a').set 1 (by simp) b').set 2 (by simp) c').set 3 (by simp) d').set 4 (by simp) e').set 5 (by simp) f', (((((((Only.refl H w).set 0 a').set 1 b').set 2 c').set 3 d').set 4 e').set 5 f')⟩
end Go.Proofs.Ytbnnmakmgleikaa
