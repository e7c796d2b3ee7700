/-
  A scope in which the run jumps to any of its labels: what holds at each jump, and a number that every pass from a label lowers.
  What lex.All answers: all words of a text, or the place of the first that is none.
-/
import Derived.Test.YtdkcdgjpcojdfaaGreatDoorBase
import Derived.Scope
import Derived.ScopeJumps
import Derived.WalkMore
import Derived.Test.YtdkcdgjpcojdfaaGreatDoorLX
import Derived.Test.YtdkcdgjpcojdfaaGreatDoorTK

namespace Go

def Exit.jumps (J : Nat → Act → World → Prop) (Q : Exit → Act → World → Prop) : Exit → Act → World → Prop
  | .goto l, a, w => J l a w
  | e, a, w => Q e a w
section
variable {P : Program} {a : Act} {w : World} {Q : Exit → Act → World → Prop} {J : Nat → Act → World → Prop}
theorem Exit.jumps_mono {J' : Nat → Act → World → Prop} (h : ∀ l a w, J l a w → J' l a w) (e : Exit) (a : Act) (w : World) (k : Exit.jumps J Q e a w) : Exit.jumps J' Q e a w := by
  cases e with
  | goto l => exact h _ _ _ k
  | normal => exact k
  | exit id => exact k
  | ret => exact k
  | panic ch => exact k
  | outgrown => exact k

theorem wp_scope_base {c : Code} (J : Nat → Nat → Act → World → Prop)
    (first : c.wp P (Exit.jumps (fun l a' w' => ∃ n, J l n a' w') Q) a w)
    (pass : ∀ l n a w, J l n a w → ∃ rest, findLabel c l = some rest ∧ rest.wp P (Exit.jumps (fun l' a' w' => ∃ n', J l' n' a' w' ∧ n' < n) Q) a w) : (Code.scope c).wp P Q a w := by
  intro b k cs
  have key : ∀ n l a w, J l n a w → ∃ rest, findLabel c l = some rest ∧ ∃ e a' w', Q e a' w' ∧ Arrives P (lone (b.at a (.code rest :: .inScope c :: k)) cs w) b k cs e a' w' := by
    intro n
    induction n using Nat.strongRecOn with
    | _ n ih =>
      intro l a w hJ
      obtain ⟨rest, hf, hp⟩ := pass l n a w hJ
      refine ⟨rest, hf, ?_⟩
      obtain ⟨e, a₁, w₁, hq, harr⟩ := hp b (.inScope c :: k) cs
      cases e with
      | normal => exact ⟨.normal, a₁, w₁, hq, Steps.trans harr (.one step_inScope)⟩
      | exit id => exact ⟨.exit id, a₁, w₁, hq, fun k' hk => harr k' (by simp [exitTo, hk])⟩
      | goto l' =>
        obtain ⟨n', hJ', hlt⟩ := hq
        obtain ⟨rest', hf', e₂, a₂, w₂, hq₂, harr₂⟩ := ih n' hlt l' a₁ w₁ hJ'
        have hg : gotoIn l' (.inScope c :: k) = some (.code rest' :: .inScope c :: k) := by simp [gotoIn, hf']
        exact ⟨e₂, a₂, w₂, hq₂, .of_steps (harr _ hg) harr₂⟩
      | ret => exact ⟨_, a₁, w₁, hq, harr⟩
      | panic ch => exact ⟨_, a₁, w₁, hq, harr⟩
      | outgrown => exact ⟨_, a₁, w₁, hq, harr⟩
  obtain ⟨e, a₁, w₁, hq, harr⟩ := first b (.inScope c :: k) cs
  cases e with
  | normal => exact ⟨.normal, a₁, w₁, hq, .head step_scope (Steps.trans harr (.one step_inScope))⟩
  | exit id => exact ⟨.exit id, a₁, w₁, hq, fun k' hk => .head step_scope (harr k' (by simp [exitTo, hk]))⟩
  | goto l =>
    obtain ⟨n, hJ⟩ := hq
    obtain ⟨rest, hf, e₂, a₂, w₂, hq₂, harr₂⟩ := key n l a₁ w₁ hJ
    have hg : gotoIn l (.inScope c :: k) = some (.code rest :: .inScope c :: k) := by simp [gotoIn, hf]
    exact ⟨e₂, a₂, w₂, hq₂, .of_steps (.head step_scope (harr _ hg)) harr₂⟩
  | ret => exact ⟨_, a₁, w₁, hq, .of_steps (.one step_scope) harr⟩
  | panic ch => exact ⟨_, a₁, w₁, hq, .of_steps (.one step_scope) harr⟩
  | outgrown => exact ⟨_, a₁, w₁, hq, .of_steps (.one step_scope) harr⟩
theorem wp_skip_seq {rest : Code} (h : rest.wp P Q a w) : (Code.skip.seq rest).wp P Q a w := by
  refine wp_seq ?_
  refine wp_skip ?_
  exact h
theorem wp_scope_all {c : Code} (J : Nat → Nat → Act → World → Prop)
    (pass : ∀ l n a w, J l n a w → (∀ l' n' a' w', n' < n → J l' n' a' w' → ∃ rest, findLabel c l' = some (Code.skip.seq rest) ∧ rest.wp P (Exit.jumps (fun l'' a'' w'' => ∃ n'', J l'' n'' a'' w'' ∧ n'' < n) Q) a' w') →
      ∃ rest, findLabel c l = some (Code.skip.seq rest) ∧ rest.wp P (Exit.jumps (fun l' a' w' => ∃ n', J l' n' a' w' ∧ n' < n) Q) a w)
    (first : (∀ l n a' w', J l n a' w' → ∃ rest, findLabel c l = some (Code.skip.seq rest) ∧ rest.wp P (Exit.jumps (fun l' a' w' => ∃ n', J l' n' a' w') Q) a' w') → c.wp P (Exit.jumps (fun l a' w' => ∃ n, J l n a' w') Q) a w) : (Code.scope c).wp P Q a w := by
  have key : ∀ n l a w, J l n a w → ∃ rest, findLabel c l = some (Code.skip.seq rest) ∧ rest.wp P (Exit.jumps (fun l' a' w' => ∃ n', J l' n' a' w' ∧ n' < n) Q) a w := by
    intro n
    induction n using Nat.strongRecOn with
    | _ n ih =>
      intro l a w hJ
      refine pass l n a w hJ fun l' n' a' w' hlt hJ' => ?_
      obtain ⟨rest, hf, hw⟩ := ih n' hlt l' a' w' hJ'
      exact ⟨rest, hf, wp_mono hw fun e a'' w'' k => Exit.jumps_mono (fun _ _ _ ⟨m, h1, h2⟩ => ⟨m, h1, by omega⟩) e a'' w'' k⟩
  refine wp_scope_base J (first fun l n a' w' hJ => ?_) (fun l n a w h => let ⟨rest, hf, hw⟩ := key n l a w h; ⟨_, hf, wp_skip_seq hw⟩)
  obtain ⟨rest, hf, hw⟩ := key n l a' w' hJ
  exact ⟨rest, hf, wp_mono hw fun e a'' w'' k => Exit.jumps_mono (fun _ _ _ ⟨m, h1, _⟩ => ⟨m, h1⟩) e a'' w'' k⟩
end
end Go

namespace Go.Proofs.YtdkcdgjpcojdfaaGreatDoor
open Go.RowKit

def LexR (s : ByteArray) (w0 : World) : Nat → Nat → Value → Value → Value → Value → World → Prop
  | 0, n, o, _, te, _, wr => ∃ (m : Nat) (ts : List PLex.Tok), m ≤ s.size ∧ te = .int .i64 m ∧ ts.length ≤ m ∧ Hid (told s m ts) ∧ Hid (wr.ownsRow w0.heap.size 82 3 o ts.length (cellsT ts)) ∧ Hid (Below w0.heap.size w0 wr) ∧ n = (s.size - m) * 8 + 5
  | 1, n, o, ta, te, _, wr => ∃ (j m : Nat) (ts : List PLex.Tok), j ≤ m ∧ m < s.size ∧ ta = .int .i64 j ∧ te = .int .i64 m ∧ ts.length ≤ j ∧ Hid (told s j ts) ∧ Hid (stepAt s j = (6, endP (fun d => d != 10) s (m + 1) - j)) ∧ Hid (wr.ownsRow w0.heap.size 82 3 o ts.length (cellsT ts)) ∧ Hid (Below w0.heap.size w0 wr) ∧ n = (s.size - m) * 8 + 1
  | 2, n, o, ta, te, _, wr => ∃ (j m : Nat) (ts : List PLex.Tok), j ≤ m ∧ m < s.size ∧ ta = .int .i64 j ∧ te = .int .i64 m ∧ ts.length ≤ j ∧ Hid (told s j ts) ∧ Hid (stepAt s j = (if endP PLex.isAl s (m + 1) - j < 13 then 1 else 0, endP PLex.isAl s (m + 1) - j)) ∧ Hid (wr.ownsRow w0.heap.size 82 3 o ts.length (cellsT ts)) ∧ Hid (Below w0.heap.size w0 wr) ∧ n = (s.size - m) * 8 + 1
  | 3, n, o, ta, te, _, wr => ∃ (j m : Nat) (ts : List PLex.Tok), j ≤ m ∧ m < s.size ∧ ta = .int .i64 j ∧ te = .int .i64 m ∧ ts.length ≤ j ∧ Hid (told s j ts) ∧ Hid (stepAt s j = (PLex.kindOf ((s.data.toList.drop j).take (endP PLex.isRun s (m + 1) - j)), endP PLex.isRun s (m + 1) - j)) ∧ Hid (wr.ownsRow w0.heap.size 82 3 o ts.length (cellsT ts)) ∧ Hid (Below w0.heap.size w0 wr) ∧ n = (s.size - m) * 8 + 1
  | 4, n, o, ta, te, tk, wr => ∃ (j m kk : Nat) (ts : List PLex.Tok), j ≤ m ∧ j < s.size ∧ m ≤ s.size ∧ ta = .int .i64 j ∧ te = .int .i64 m ∧ tk = .int .i64 kk ∧ ts.length ≤ j ∧ Hid (told s j ts) ∧ Hid ((j = m → (stepAt s j).1 = 0) ∧ (j < m → stepAt s j = (kk, m - j) ∧ kk ≠ 6)) ∧ Hid (wr.ownsRow w0.heap.size 82 3 o ts.length (cellsT ts)) ∧ Hid (Below w0.heap.size w0 wr) ∧ n = (if j < m then (s.size - m) * 8 + 7 else 0)
  | _, _, _, _, _, _, _ => False
def LexJ (s : ByteArray) (w0 : World) (l n : Nat) (a : Act) (wr : World) : Prop :=
  ∃ o ta te tk tc u10 u11 u12 u13 u14 u15 u16 u17 u18 u19 u20 u21 u22 u23 u24 u25 u26 u27 u28 u29 u30 u31 u32 u33 u34 u35 u36 u37 u38 u39 u40 u41 u42 u43 u44 u45 u46 u47 u48 u49 u50 u51 u52 u53 u54 u55 u56 u57 u58 u59 u60 u61 u62 u63 u64 u65 u66 u67 u68 u69 u70 u71 u72 u73 u74 u75 u76 u77 u78 u79 u80 u81 u82 u83 u84 u85 u86 u87 u88 u89 u90 u91 u92 u93 u94 u95 u96 u97 u98 u99 u100 u101 u102 u103 u104 u105 u106 u107 u108 u109 u110 u111 u112 u113 u114 u115 u116 u117 u118 u119 u120 u121 u122 u123 u124 u125 u126 : Value, LexR s w0 l n o ta te tk wr ∧ a = { tmps := #[.string s, undef, .slice none 0 0, .int .i64 0, .int .i64 0, o, ta, te, tk, tc, u10, u11, u12, u13, u14, u15, u16, u17, u18, u19, u20, u21, u22, u23, u24, u25, u26, u27, u28, u29, u30, u31, u32, u33, u34, u35, u36, u37, u38, u39, u40, u41, u42, u43, u44, u45, u46, u47, u48, u49, u50, u51, u52, u53, u54, u55, u56, u57, u58, u59, u60, u61, u62, u63, u64, u65, u66, u67, u68, u69, u70, u71, u72, u73, u74, u75, u76, u77, u78, u79, u80, u81, u82, u83, u84, u85, u86, u87, u88, u89, u90, u91, u92, u93, u94, u95, u96, u97, u98, u99, u100, u101, u102, u103, u104, u105, u106, u107, u108, u109, u110, u111, u112, u113, u114, u115, u116, u117, u118, u119, u120, u121, u122, u123, u124, u125, u126], defers := [] }
theorem lexJ_inv {s : ByteArray} {w0 : World} {l n : Nat} {a : Act} {wr : World} {M : Prop} (h : LexJ s w0 l n a wr)
    (k : ∀ o ta te tk tc u10 u11 u12 u13 u14 u15 u16 u17 u18 u19 u20 u21 u22 u23 u24 u25 u26 u27 u28 u29 u30 u31 u32 u33 u34 u35 u36 u37 u38 u39 u40 u41 u42 u43 u44 u45 u46 u47 u48 u49 u50 u51 u52 u53 u54 u55 u56 u57 u58 u59 u60 u61 u62 u63 u64 u65 u66 u67 u68 u69 u70 u71 u72 u73 u74 u75 u76 u77 u78 u79 u80 u81 u82 u83 u84 u85 u86 u87 u88 u89 u90 u91 u92 u93 u94 u95 u96 u97 u98 u99 u100 u101 u102 u103 u104 u105 u106 u107 u108 u109 u110 u111 u112 u113 u114 u115 u116 u117 u118 u119 u120 u121 u122 u123 u124 u125 u126 : Value, LexR s w0 l n o ta te tk wr → a = { tmps := #[.string s, undef, .slice none 0 0, .int .i64 0, .int .i64 0, o, ta, te, tk, tc, u10, u11, u12, u13, u14, u15, u16, u17, u18, u19, u20, u21, u22, u23, u24, u25, u26, u27, u28, u29, u30, u31, u32, u33, u34, u35, u36, u37, u38, u39, u40, u41, u42, u43, u44, u45, u46, u47, u48, u49, u50, u51, u52, u53, u54, u55, u56, u57, u58, u59, u60, u61, u62, u63, u64, u65, u66, u67, u68, u69, u70, u71, u72, u73, u74, u75, u76, u77, u78, u79, u80, u81, u82, u83, u84, u85, u86, u87, u88, u89, u90, u91, u92, u93, u94, u95, u96, u97, u98, u99, u100, u101, u102, u103, u104, u105, u106, u107, u108, u109, u110, u111, u112, u113, u114, u115, u116, u117, u118, u119, u120, u121, u122, u123, u124, u125, u126], defers := [] } → M) : M := by
  exact Exists.elim h fun o h => Exists.elim h fun ta h => Exists.elim h fun te h => Exists.elim h fun tk h => Exists.elim h fun tc h => Exists.elim h fun u10 h => Exists.elim h fun u11 h => Exists.elim h fun u12 h => Exists.elim h fun u13 h => Exists.elim h fun u14 h => Exists.elim h fun u15 h => Exists.elim h fun u16 h => Exists.elim h fun u17 h => Exists.elim h fun u18 h => Exists.elim h fun u19 h => Exists.elim h fun u20 h => Exists.elim h fun u21 h => Exists.elim h fun u22 h => Exists.elim h fun u23 h => Exists.elim h fun u24 h => Exists.elim h fun u25 h => Exists.elim h fun u26 h => Exists.elim h fun u27 h => Exists.elim h fun u28 h => Exists.elim h fun u29 h => Exists.elim h fun u30 h => Exists.elim h fun u31 h => Exists.elim h fun u32 h => Exists.elim h fun u33 h => Exists.elim h fun u34 h => Exists.elim h fun u35 h => Exists.elim h fun u36 h => Exists.elim h fun u37 h => Exists.elim h fun u38 h => Exists.elim h fun u39 h => Exists.elim h fun u40 h => Exists.elim h fun u41 h => Exists.elim h fun u42 h => Exists.elim h fun u43 h => Exists.elim h fun u44 h => Exists.elim h fun u45 h => Exists.elim h fun u46 h => Exists.elim h fun u47 h => Exists.elim h fun u48 h => Exists.elim h fun u49 h => Exists.elim h fun u50 h => Exists.elim h fun u51 h => Exists.elim h fun u52 h => Exists.elim h fun u53 h => Exists.elim h fun u54 h => Exists.elim h fun u55 h => Exists.elim h fun u56 h => Exists.elim h fun u57 h => Exists.elim h fun u58 h => Exists.elim h fun u59 h => Exists.elim h fun u60 h => Exists.elim h fun u61 h => Exists.elim h fun u62 h => Exists.elim h fun u63 h => Exists.elim h fun u64 h => Exists.elim h fun u65 h => Exists.elim h fun u66 h => Exists.elim h fun u67 h => Exists.elim h fun u68 h => Exists.elim h fun u69 h => Exists.elim h fun u70 h => Exists.elim h fun u71 h => Exists.elim h fun u72 h => Exists.elim h fun u73 h => Exists.elim h fun u74 h => Exists.elim h fun u75 h => Exists.elim h fun u76 h => Exists.elim h fun u77 h => Exists.elim h fun u78 h => Exists.elim h fun u79 h => Exists.elim h fun u80 h => Exists.elim h fun u81 h => Exists.elim h fun u82 h => Exists.elim h fun u83 h => Exists.elim h fun u84 h => Exists.elim h fun u85 h => Exists.elim h fun u86 h => Exists.elim h fun u87 h => Exists.elim h fun u88 h => Exists.elim h fun u89 h => Exists.elim h fun u90 h => Exists.elim h fun u91 h => Exists.elim h fun u92 h => Exists.elim h fun u93 h => Exists.elim h fun u94 h => Exists.elim h fun u95 h => Exists.elim h fun u96 h => Exists.elim h fun u97 h => Exists.elim h fun u98 h => Exists.elim h fun u99 h => Exists.elim h fun u100 h => Exists.elim h fun u101 h => Exists.elim h fun u102 h => Exists.elim h fun u103 h => Exists.elim h fun u104 h => Exists.elim h fun u105 h => Exists.elim h fun u106 h => Exists.elim h fun u107 h => Exists.elim h fun u108 h => Exists.elim h fun u109 h => Exists.elim h fun u110 h => Exists.elim h fun u111 h => Exists.elim h fun u112 h => Exists.elim h fun u113 h => Exists.elim h fun u114 h => Exists.elim h fun u115 h => Exists.elim h fun u116 h => Exists.elim h fun u117 h => Exists.elim h fun u118 h => Exists.elim h fun u119 h => Exists.elim h fun u120 h => Exists.elim h fun u121 h => Exists.elim h fun u122 h => Exists.elim h fun u123 h => Exists.elim h fun u124 h => Exists.elim h fun u125 h => Exists.elim h fun u126 h => k o ta te tk tc u10 u11 u12 u13 u14 u15 u16 u17 u18 u19 u20 u21 u22 u23 u24 u25 u26 u27 u28 u29 u30 u31 u32 u33 u34 u35 u36 u37 u38 u39 u40 u41 u42 u43 u44 u45 u46 u47 u48 u49 u50 u51 u52 u53 u54 u55 u56 u57 u58 u59 u60 u61 u62 u63 u64 u65 u66 u67 u68 u69 u70 u71 u72 u73 u74 u75 u76 u77 u78 u79 u80 u81 u82 u83 u84 u85 u86 u87 u88 u89 u90 u91 u92 u93 u94 u95 u96 u97 u98 u99 u100 u101 u102 u103 u104 u105 u106 u107 u108 u109 u110 u111 u112 u113 u114 u115 u116 u117 u118 u119 u120 u121 u122 u123 u124 u125 u126 h.1 h.2
theorem lexJ_mk {s : ByteArray} {w0 : World} {l n : Nat} {wr : World} {o ta te tk : Value} (tc u10 u11 u12 u13 u14 u15 u16 u17 u18 u19 u20 u21 u22 u23 u24 u25 u26 u27 u28 u29 u30 u31 u32 u33 u34 u35 u36 u37 u38 u39 u40 u41 u42 u43 u44 u45 u46 u47 u48 u49 u50 u51 u52 u53 u54 u55 u56 u57 u58 u59 u60 u61 u62 u63 u64 u65 u66 u67 u68 u69 u70 u71 u72 u73 u74 u75 u76 u77 u78 u79 u80 u81 u82 u83 u84 u85 u86 u87 u88 u89 u90 u91 u92 u93 u94 u95 u96 u97 u98 u99 u100 u101 u102 u103 u104 u105 u106 u107 u108 u109 u110 u111 u112 u113 u114 u115 u116 u117 u118 u119 u120 u121 u122 u123 u124 u125 u126 : Value) (h : LexR s w0 l n o ta te tk wr) :
    LexJ s w0 l n { tmps := #[.string s, undef, .slice none 0 0, .int .i64 0, .int .i64 0, o, ta, te, tk, tc, u10, u11, u12, u13, u14, u15, u16, u17, u18, u19, u20, u21, u22, u23, u24, u25, u26, u27, u28, u29, u30, u31, u32, u33, u34, u35, u36, u37, u38, u39, u40, u41, u42, u43, u44, u45, u46, u47, u48, u49, u50, u51, u52, u53, u54, u55, u56, u57, u58, u59, u60, u61, u62, u63, u64, u65, u66, u67, u68, u69, u70, u71, u72, u73, u74, u75, u76, u77, u78, u79, u80, u81, u82, u83, u84, u85, u86, u87, u88, u89, u90, u91, u92, u93, u94, u95, u96, u97, u98, u99, u100, u101, u102, u103, u104, u105, u106, u107, u108, u109, u110, u111, u112, u113, u114, u115, u116, u117, u118, u119, u120, u121, u122, u123, u124, u125, u126], defers := [] } wr := ⟨o, ta, te, tk, tc, u10, u11, u12, u13, u14, u15, u16, u17, u18, u19, u20, u21, u22, u23, u24, u25, u26, u27, u28, u29, u30, u31, u32, u33, u34, u35, u36, u37, u38, u39, u40, u41, u42, u43, u44, u45, u46, u47, u48, u49, u50, u51, u52, u53, u54, u55, u56, u57, u58, u59, u60, u61, u62, u63, u64, u65, u66, u67, u68, u69, u70, u71, u72, u73, u74, u75, u76, u77, u78, u79, u80, u81, u82, u83, u84, u85, u86, u87, u88, u89, u90, u91, u92, u93, u94, u95, u96, u97, u98, u99, u100, u101, u102, u103, u104, u105, u106, u107, u108, u109, u110, u111, u112, u113, u114, u115, u116, u117, u118, u119, u120, u121, u122, u123, u124, u125, u126, h, rfl⟩

theorem endOf_al {s : ByteArray} {m : Nat} (h : m < s.size) (hl : PLex.isLet s[m] = true) : endOf alL.data.toList s m = endP PLex.isAl s (m + 1) := by
  rw [endOf_by al_in h (let_al hl)]; unfold endP; omega
theorem endOf_run {s : ByteArray} {m : Nat} (h : m < s.size) (hl : PLex.isDig s[m] = true) : endOf runL.data.toList s m = endP PLex.isRun s (m + 1) := by
  rw [endOf_by run_in h (dig_run hl)]; unfold endP; omega
theorem lexAns_bad {r : Option Nat × List PLex.Tok} {q : Nat} (h : r.1 = some q) {w w' : World} (hb : Below w.heap.size w w') : LexAns r w (.returned (.tuple #[.slice none 0 0, .int .i64 (q : Nat), .int .i64 2])) w' := by
  refine ⟨none, 0, 0, ?_, fun _ => rfl, Nat.le_refl _, ?_, hb, fun k => by rw [h] at k; cases k⟩
  · rw [h]
  · rw [h]; exact slt_nil _
theorem sign_step {s : ByteArray} {m k : Nat} (h : m < s.size) (h1 : ¬ (s[m] = 32 ∨ s[m] = 10)) (h2 : s[m] ≠ 35) (hl : PLex.isLet s[m] = false) (hd : PLex.isDig s[m] = false) (hk : PLex.signLen (s.data.toList.drop m) = k) :
    (k = 0 → (stepAt s m).1 = 0) ∧ (0 < k → stepAt s m = (5, k)) ∧ m + k ≤ s.size := by
  rw [drop_at h] at hk
  unfold PLex.signLen at hk
  simp only [] at hk
  by_cases hg : PLex.isSgn s[m] = true
  · have e := stepAt_sign h h1 h2 hl hd hg
    rw [if_pos hg] at hk
    rw [e, hk]
    refine ⟨fun k0 => ?_, fun _ => rfl, ?_⟩
    · exfalso; rw [k0] at hk; split at hk <;> omega
    · by_cases ht : PLex.two s[m] (s.data.toList.drop (m + 1)) = true
      · rw [if_pos ht] at hk
        cases hr : s.data.toList.drop (m + 1) with
        | nil => rw [hr] at ht; cases ht
        | cons d r =>
          have := congrArg List.length hr
          rw [List.length_drop, List.length_cons] at this
          have e2 : s.data.toList.length = s.size := by simp
          omega
      · rw [if_neg ht] at hk; omega
  · rw [if_neg hg] at hk
    have e := stepAt_none h h1 h2 hl hd (by simpa using hg)
    exact ⟨fun _ => by rw [e], fun k0 => by omega, by omega⟩
theorem lex_tokTy : TokTy 82 79 where
  info := ⟨.agg #[.int .i64 0, .string ⟨#[]⟩, .int .i64 0], by kernel_rfl, by rfl⟩
  under := by kernel_rfl

set_option maxHeartbeats 6400000 in
set_option maxRecDepth 100000 in
theorem lall_any (s : ByteArray) (w : World) (hs : s.size ≤ 99999) :
    Calls Tryz.prog 28 #[.string s] w (LexAns (PLex.all PLex.kindOf 0 s.data.toList) w) := by
  go_enter Tryz.func28, Tryz.ntmps28
  go_wp2_with fail
  refine wp_scope_all (LexJ s w) ?_ ?_
  · intro l n a wr hJ ih
    refine lexJ_inv hJ ?_
    intro o ta te tk tc u10 u11 u12 u13 u14 u15 u16 u17 u18 u19 u20 u21 u22 u23 u24 u25 u26 u27 u28 u29 u30 u31 u32 u33 u34 u35 u36 u37 u38 u39 u40 u41 u42 u43 u44 u45 u46 u47 u48 u49 u50 u51 u52 u53 u54 u55 u56 u57 u58 u59 u60 u61 u62 u63 u64 u65 u66 u67 u68 u69 u70 u71 u72 u73 u74 u75 u76 u77 u78 u79 u80 u81 u82 u83 u84 u85 u86 u87 u88 u89 u90 u91 u92 u93 u94 u95 u96 u97 u98 u99 u100 u101 u102 u103 u104 u105 u106 u107 u108 u109 u110 u111 u112 u113 u114 u115 u116 u117 u118 u119 u120 u121 u122 u123 u124 u125 u126 hR ha
    subst ha
    clear hJ
    match l, hR with
    | 0, hR =>
      refine ⟨_, rfl, ?_⟩
      clear ih
      obtain ⟨m, ts, hm, rfl, hts, HT, HO, HB, rfl⟩ := hR
      by_cases hlt : m < s.size
      · by_cases h32 : s[m] = 32
        · have HT2 := Lib.hid (told_skip HT.out hlt (stepAt_blank hlt (.inl h32)))
          have b1 := byte_eq (n := 32) rfl h32
          clear h32 HT
          go_wp2_with fail
          go_step3
          refine ⟨(s.size - (m + 1)) * 8 + 5, lexJ_mk _ _ _ _ _ _ _ _ _ _ _ _ _ _ _ _ _ _ _ _ _ _ _ _ _ _ _ _ _ _ _ _ _ _ _ _ _ _ _ _ _ _ _ _ _ _ _ _ _ _ _ _ _ _ _ _ _ _ _ _ _ _ _ _ _ _ _ _ _ _ _ _ _ _ _ _ _ _ _ _ _ _ _ _ _ _ _ _ _ _ _ _ _ _ _ _ _ _ _ _ _ _ _ _ _ _ _ _ _ _ _ _ _ _ _ _ _ _ ⟨m + 1, ts, by omega, rfl, by omega, HT2, HO, HB, rfl⟩, by omega⟩
        have b1 := byte_ne (n := 32) rfl h32
        by_cases h10 : s[m] = 10
        · have HT2 := Lib.hid (told_skip HT.out hlt (stepAt_blank hlt (.inr h10)))
          have b2 := byte_eq (n := 10) rfl h10
          clear h10 h32 HT
          go_wp2_with fail
          go_step3
          refine ⟨(s.size - (m + 1)) * 8 + 5, lexJ_mk _ _ _ _ _ _ _ _ _ _ _ _ _ _ _ _ _ _ _ _ _ _ _ _ _ _ _ _ _ _ _ _ _ _ _ _ _ _ _ _ _ _ _ _ _ _ _ _ _ _ _ _ _ _ _ _ _ _ _ _ _ _ _ _ _ _ _ _ _ _ _ _ _ _ _ _ _ _ _ _ _ _ _ _ _ _ _ _ _ _ _ _ _ _ _ _ _ _ _ _ _ _ _ _ _ _ _ _ _ _ _ _ _ _ _ _ _ _ ⟨m + 1, ts, by omega, rfl, by omega, HT2, HO, HB, rfl⟩, by omega⟩
        have b2 := byte_ne (n := 10) rfl h10
        have hn : ¬ (s[m] = 32 ∨ s[m] = 10) := fun k => k.elim h32 h10
        by_cases h35 : s[m] = 35
        · have hst := Lib.hid (stepAt_comment hlt h35)
          have HS : Hid (stepAt s m = (6, endP (fun d => d != 10) s (m + 1) - m)) := Lib.hid (by rw [hst.out]; unfold endP; congr 1; omega)
          have b3 := byte_eq (n := 35) rfl h35
          clear h10 h32 h35 hn hst
          go_wp2_with fail
          go_step3
          refine ⟨(s.size - m) * 8 + 1, lexJ_mk _ _ _ _ _ _ _ _ _ _ _ _ _ _ _ _ _ _ _ _ _ _ _ _ _ _ _ _ _ _ _ _ _ _ _ _ _ _ _ _ _ _ _ _ _ _ _ _ _ _ _ _ _ _ _ _ _ _ _ _ _ _ _ _ _ _ _ _ _ _ _ _ _ _ _ _ _ _ _ _ _ _ _ _ _ _ _ _ _ _ _ _ _ _ _ _ _ _ _ _ _ _ _ _ _ _ _ _ _ _ _ _ _ _ _ _ _ _ ⟨m, m, ts, Nat.le_refl _, hlt, rfl, rfl, hts, HT, HS, HO, HB, rfl⟩, by omega⟩
        have b3 := byte_ne (n := 35) rfl h35
        cases hl : PLex.isLet s[m] with
        | true =>
          have HS : Hid (stepAt s m = (if endP PLex.isAl s (m + 1) - m < 13 then 1 else 0, endP PLex.isAl s (m + 1) - m)) := Lib.hid (by rw [stepAt_word hlt hn h35 hl, endOf_al hlt hl])
          have HC : Hid (∀ w, Calls Tryz.prog 45 #[.int .u8 (s[m]).toNat] w fun e w' => e = .returned (.bool true) ∧ w = w') := Lib.hid (fun w => by have := isletter_any s[m] w; rw [hl] at this; exact this)
          clear h10 h32 h35 hn hl
          go_wp2_with fail
          refine (HC.out _).mono ?_
          rintro _ _ ⟨rfl, rfl⟩
          go_wp2_with fail
          go_step3
          refine ⟨(s.size - m) * 8 + 1, lexJ_mk _ _ _ _ _ _ _ _ _ _ _ _ _ _ _ _ _ _ _ _ _ _ _ _ _ _ _ _ _ _ _ _ _ _ _ _ _ _ _ _ _ _ _ _ _ _ _ _ _ _ _ _ _ _ _ _ _ _ _ _ _ _ _ _ _ _ _ _ _ _ _ _ _ _ _ _ _ _ _ _ _ _ _ _ _ _ _ _ _ _ _ _ _ _ _ _ _ _ _ _ _ _ _ _ _ _ _ _ _ _ _ _ _ _ _ _ _ _ ⟨m, m, ts, Nat.le_refl _, hlt, rfl, rfl, hts, HT, HS, HO, HB, rfl⟩, by omega⟩
        | false =>
        have HC : Hid (∀ w, Calls Tryz.prog 45 #[.int .u8 (s[m]).toNat] w fun e w' => e = .returned (.bool false) ∧ w = w') := Lib.hid (fun w => by have := isletter_any s[m] w; rw [hl] at this; exact this)
        cases hd : PLex.isDig s[m] with
        | true =>
          have HS : Hid (stepAt s m = (PLex.kindOf ((s.data.toList.drop m).take (endP PLex.isRun s (m + 1) - m)), endP PLex.isRun s (m + 1) - m)) := Lib.hid (by rw [stepAt_run hlt hn h35 hl hd, endOf_run hlt hd])
          have HC2 : Hid (∀ w, Calls Tryz.prog 46 #[.int .u8 (s[m]).toNat] w fun e w' => e = .returned (.bool true) ∧ w = w') := Lib.hid (fun w => by have := isdigit_any s[m] w; rw [hd] at this; exact this)
          clear h10 h32 h35 hn hl hd
          go_wp2_with fail
          refine (HC.out _).mono ?_
          rintro _ _ ⟨rfl, rfl⟩
          go_wp2_with fail
          refine (HC2.out _).mono ?_
          rintro _ _ ⟨rfl, rfl⟩
          go_wp2_with fail
          go_step3
          refine ⟨(s.size - m) * 8 + 1, lexJ_mk _ _ _ _ _ _ _ _ _ _ _ _ _ _ _ _ _ _ _ _ _ _ _ _ _ _ _ _ _ _ _ _ _ _ _ _ _ _ _ _ _ _ _ _ _ _ _ _ _ _ _ _ _ _ _ _ _ _ _ _ _ _ _ _ _ _ _ _ _ _ _ _ _ _ _ _ _ _ _ _ _ _ _ _ _ _ _ _ _ _ _ _ _ _ _ _ _ _ _ _ _ _ _ _ _ _ _ _ _ _ _ _ _ _ _ _ _ _ ⟨m, m, ts, Nat.le_refl _, hlt, rfl, rfl, hts, HT, HS, HO, HB, rfl⟩, by omega⟩
        | false =>
        have HC2 : Hid (∀ w, Calls Tryz.prog 46 #[.int .u8 (s[m]).toNat] w fun e w' => e = .returned (.bool false) ∧ w = w') := Lib.hid (fun w => by have := isdigit_any s[m] w; rw [hd] at this; exact this)
        obtain ⟨k, hk⟩ : ∃ k, PLex.signLen (s.data.toList.drop m) = k := ⟨_, rfl⟩
        have HC3 : Hid (∀ w, Calls Tryz.prog 47 #[.string (s.extract m s.size)] w fun e w' => e = .returned (.int .i64 (k : Nat)) ∧ w = w') := Lib.hid (fun w => by
          have := signlen_any (s.extract m s.size) (by rw [ByteArray.size_extract]; omega) w
          rw [slice_list, List.take_of_length_le (by simp), hk] at this; exact this)
        have HK : Hid ((k = 0 → (stepAt s m).1 = 0) ∧ (0 < k → stepAt s m = (5, k)) ∧ m + k ≤ s.size) := Lib.hid (sign_step hlt hn h35 hl hd hk)
        have hmk := HK.out.2.2
        clear h10 h32 h35 hn hl hd hk
        go_wp2_with fail
        refine (HC.out _).mono ?_
        rintro _ _ ⟨rfl, rfl⟩
        go_wp2_with fail
        refine (HC2.out _).mono ?_
        rintro _ _ ⟨rfl, rfl⟩
        go_wp2_with fail
        refine (HC3.out _).mono ?_
        rintro _ _ ⟨rfl, rfl⟩
        go_wp2_with fail
        go_step3
        refine ⟨if m < m + k then (s.size - (m + k)) * 8 + 7 else 0, lexJ_mk _ _ _ _ _ _ _ _ _ _ _ _ _ _ _ _ _ _ _ _ _ _ _ _ _ _ _ _ _ _ _ _ _ _ _ _ _ _ _ _ _ _ _ _ _ _ _ _ _ _ _ _ _ _ _ _ _ _ _ _ _ _ _ _ _ _ _ _ _ _ _ _ _ _ _ _ _ _ _ _ _ _ _ _ _ _ _ _ _ _ _ _ _ _ _ _ _ _ _ _ _ _ _ _ _ _ _ _ _ _ _ _ _ _ _ _ _ _ ⟨m, m + k, 5, ts, by omega, hlt, hmk, rfl, by first | rfl | (congr 1), rfl, hts, HT, Lib.hid ⟨fun e => HK.out.1 (by omega), fun e => ⟨by rw [Nat.add_sub_cancel_left]; exact HK.out.2.1 (by omega), by omega⟩⟩, HO, HB, rfl⟩, by split <;> omega⟩
      · obtain rfl : m = s.size := by omega
        have hf := told_last HT.out
        obtain ⟨A, cap, rfl, a1, a2, a3⟩ := slt_of_own HO.out rfl
        have HA := Lib.hid a1; have HC := Lib.hid a2; have HS := Lib.hid a3; have HF := Lib.hid hf
        clear hf a1 a2 a3
        go_wp2_with fail
        simp only [Exit.jumps]
        go_ret3
        rw [HF.out]
        exact ⟨A, ts.length, cap, rfl, HA.out, HC.out, HS.out, HB.out, fun _ => HO.out⟩
    | 1, hR =>
      refine ⟨_, rfl, ?_⟩
      clear ih
      obtain ⟨j, m, ts, hjm, hms, rfl, rfl, hts, HT, HS, HO, HB, rfl⟩ := hR
      have fin : endP (fun d => d != 10) s (m + 1) = m + 1 → told s (m + 1) ts := fun e => by
        have := told_skip HT.out (by omega : j < s.size) HS.out
        rw [e, show j + (m + 1 - j) = m + 1 by omega] at this; exact this
      by_cases hlt : m + 1 < s.size
      · by_cases h10 : s[m + 1] = 10
        · have HT2 := Lib.hid (fin (endP_no hlt (by rw [h10]; rfl)))
          have b4 := byte_eq' (n := 10) rfl h10
          clear h10 fin
          go_wp2_with fail
          go_step3
          refine ⟨(s.size - (m + 1)) * 8 + 5, lexJ_mk _ _ _ _ _ _ _ _ _ _ _ _ _ _ _ _ _ _ _ _ _ _ _ _ _ _ _ _ _ _ _ _ _ _ _ _ _ _ _ _ _ _ _ _ _ _ _ _ _ _ _ _ _ _ _ _ _ _ _ _ _ _ _ _ _ _ _ _ _ _ _ _ _ _ _ _ _ _ _ _ _ _ _ _ _ _ _ _ _ _ _ _ _ _ _ _ _ _ _ _ _ _ _ _ _ _ _ _ _ _ _ _ _ _ _ _ _ _ ⟨m + 1, ts, by omega, by first | rfl | (congr 1), by omega, HT2, HO, HB, rfl⟩, by omega⟩
        · have HS2 : Hid (stepAt s j = (6, endP (fun d => d != 10) s (m + 1 + 1) - j)) := Lib.hid (by rw [HS.out, endP_yes hlt (by simpa using h10)])
          have b4 := byte_ne' (n := 10) rfl h10
          clear h10 fin
          go_wp2_with fail
          go_step3
          refine ⟨(s.size - (m + 1)) * 8 + 1, lexJ_mk _ _ _ _ _ _ _ _ _ _ _ _ _ _ _ _ _ _ _ _ _ _ _ _ _ _ _ _ _ _ _ _ _ _ _ _ _ _ _ _ _ _ _ _ _ _ _ _ _ _ _ _ _ _ _ _ _ _ _ _ _ _ _ _ _ _ _ _ _ _ _ _ _ _ _ _ _ _ _ _ _ _ _ _ _ _ _ _ _ _ _ _ _ _ _ _ _ _ _ _ _ _ _ _ _ _ _ _ _ _ _ _ _ _ _ _ _ _ ⟨j, m + 1, ts, by omega, hlt, rfl, by first | rfl | (congr 1), hts, HT, HS2, HO, HB, rfl⟩, by omega⟩
      · have e : m + 1 = s.size := by omega
        have HT2 := Lib.hid (fin (by rw [e]; exact endP_last))
        clear fin e
        go_wp2_with fail
        go_step3
        refine ⟨(s.size - (m + 1)) * 8 + 5, lexJ_mk _ _ _ _ _ _ _ _ _ _ _ _ _ _ _ _ _ _ _ _ _ _ _ _ _ _ _ _ _ _ _ _ _ _ _ _ _ _ _ _ _ _ _ _ _ _ _ _ _ _ _ _ _ _ _ _ _ _ _ _ _ _ _ _ _ _ _ _ _ _ _ _ _ _ _ _ _ _ _ _ _ _ _ _ _ _ _ _ _ _ _ _ _ _ _ _ _ _ _ _ _ _ _ _ _ _ _ _ _ _ _ _ _ _ _ _ _ _ ⟨m + 1, ts, by omega, by first | rfl | (congr 1), by omega, HT2, HO, HB, rfl⟩, by omega⟩
    | 2, hR =>
      refine ⟨_, rfl, ?_⟩
      clear ih
      obtain ⟨j, m, ts, hjm, hms, rfl, rfl, hts, HT, HS, HO, HB, rfl⟩ := hR
      clear hR
      have hsl : ∀ wx, (Instr.slice 9 (.string s) (some (.int .i64 (j : Int))) (some (.int .i64 ((m : Int) + 1))) none).run Tryz.prog wx = .ok (.string (s.extract j (m + 1))) wx := fun wx => by
        have := run_slice_string (P := Tryz.prog) (w := wx) 9 s .i64 .i64 (j : Int) ((m : Int) + 1) Tryz.underlying9 (by omega) (by omega) (by omega)
        rw [this]; congr 3
      obtain ⟨kk, hkk⟩ : ∃ kk, (if (s.extract j (m + 1)).size < 13 then 1 else 0) = kk := ⟨_, rfl⟩
      have HK : Hid (∀ w, Calls Tryz.prog 48 #[.string (s.extract j (m + 1))] w fun e w' => e = .returned (.int .i64 (kk : Nat)) ∧ w = w') := Lib.hid (fun w => by have := wordkind_any (s.extract j (m + 1)) w; rw [hkk] at this; exact this)
      have fin : endP PLex.isAl s (m + 1) = m + 1 → (j = m + 1 → (stepAt s j).1 = 0) ∧ (j < m + 1 → stepAt s j = (kk, m + 1 - j) ∧ kk ≠ 6) := fun e => by
        refine ⟨fun k => by omega, fun _ => ⟨?_, by rw [← hkk]; split <;> omega⟩⟩
        rw [HS.out, e, ← hkk, ByteArray.size_extract, Nat.min_eq_left (by omega)]
      have FIN := Lib.hid fin
      clear fin hkk
      by_cases hlt : m + 1 < s.size
      · cases hl : PLex.isLet s[m + 1] with
        | true =>
          have HS2 : Hid (stepAt s j = (if endP PLex.isAl s (m + 1 + 1) - j < 13 then 1 else 0, endP PLex.isAl s (m + 1 + 1) - j)) := Lib.hid (by rw [HS.out, endP_yes hlt (let_al hl)])
          have HC : Hid (∀ w, Calls Tryz.prog 45 #[.int .u8 (s[m + 1]).toNat] w fun e w' => e = .returned (.bool true) ∧ w = w') := Lib.hid (fun w => by have := isletter_any s[m + 1] w; rw [hl] at this; exact this)
          clear hl
          go_wp2_with fail
          refine (HC.out _).mono ?_
          rintro _ _ ⟨rfl, rfl⟩
          go_wp2_with fail
          go_step3
          refine ⟨(s.size - (m + 1)) * 8 + 1, lexJ_mk _ _ _ _ _ _ _ _ _ _ _ _ _ _ _ _ _ _ _ _ _ _ _ _ _ _ _ _ _ _ _ _ _ _ _ _ _ _ _ _ _ _ _ _ _ _ _ _ _ _ _ _ _ _ _ _ _ _ _ _ _ _ _ _ _ _ _ _ _ _ _ _ _ _ _ _ _ _ _ _ _ _ _ _ _ _ _ _ _ _ _ _ _ _ _ _ _ _ _ _ _ _ _ _ _ _ _ _ _ _ _ _ _ _ _ _ _ _ ⟨j, m + 1, ts, by omega, hlt, rfl, by first | rfl | (congr 1), hts, HT, HS2, HO, HB, rfl⟩, by omega⟩
        | false =>
        have HC : Hid (∀ w, Calls Tryz.prog 45 #[.int .u8 (s[m + 1]).toNat] w fun e w' => e = .returned (.bool false) ∧ w = w') := Lib.hid (fun w => by have := isletter_any s[m + 1] w; rw [hl] at this; exact this)
        cases hd : PLex.isDig s[m + 1] with
        | true =>
          have HS2 : Hid (stepAt s j = (if endP PLex.isAl s (m + 1 + 1) - j < 13 then 1 else 0, endP PLex.isAl s (m + 1 + 1) - j)) := Lib.hid (by rw [HS.out, endP_yes hlt (by unfold PLex.isAl; rw [hd]; simp)])
          have HC2 : Hid (∀ w, Calls Tryz.prog 46 #[.int .u8 (s[m + 1]).toNat] w fun e w' => e = .returned (.bool true) ∧ w = w') := Lib.hid (fun w => by have := isdigit_any s[m + 1] w; rw [hd] at this; exact this)
          clear hl hd
          go_wp2_with fail
          refine (HC.out _).mono ?_
          rintro _ _ ⟨rfl, rfl⟩
          go_wp2_with fail
          refine (HC2.out _).mono ?_
          rintro _ _ ⟨rfl, rfl⟩
          go_wp2_with fail
          go_step3
          refine ⟨(s.size - (m + 1)) * 8 + 1, lexJ_mk _ _ _ _ _ _ _ _ _ _ _ _ _ _ _ _ _ _ _ _ _ _ _ _ _ _ _ _ _ _ _ _ _ _ _ _ _ _ _ _ _ _ _ _ _ _ _ _ _ _ _ _ _ _ _ _ _ _ _ _ _ _ _ _ _ _ _ _ _ _ _ _ _ _ _ _ _ _ _ _ _ _ _ _ _ _ _ _ _ _ _ _ _ _ _ _ _ _ _ _ _ _ _ _ _ _ _ _ _ _ _ _ _ _ _ _ _ _ ⟨j, m + 1, ts, by omega, hlt, rfl, by first | rfl | (congr 1), hts, HT, HS2, HO, HB, rfl⟩, by omega⟩
        | false =>
          have HC2 : Hid (∀ w, Calls Tryz.prog 46 #[.int .u8 (s[m + 1]).toNat] w fun e w' => e = .returned (.bool false) ∧ w = w') := Lib.hid (fun w => by have := isdigit_any s[m + 1] w; rw [hd] at this; exact this)
          have HF := Lib.hid (FIN.out (endP_no hlt (by unfold PLex.isAl; rw [hl, hd]; rfl)))
          clear hl hd
          go_wp2_with fail
          refine (HC.out _).mono ?_
          rintro _ _ ⟨rfl, rfl⟩
          go_wp2_with fail
          refine (HC2.out _).mono ?_
          rintro _ _ ⟨rfl, rfl⟩
          go_wp2_with fail
          refine (HK.out _).mono ?_
          rintro _ _ ⟨rfl, rfl⟩
          go_wp2_with fail
          go_step3
          refine ⟨if j < m + 1 then (s.size - (m + 1)) * 8 + 7 else 0, lexJ_mk _ _ _ _ _ _ _ _ _ _ _ _ _ _ _ _ _ _ _ _ _ _ _ _ _ _ _ _ _ _ _ _ _ _ _ _ _ _ _ _ _ _ _ _ _ _ _ _ _ _ _ _ _ _ _ _ _ _ _ _ _ _ _ _ _ _ _ _ _ _ _ _ _ _ _ _ _ _ _ _ _ _ _ _ _ _ _ _ _ _ _ _ _ _ _ _ _ _ _ _ _ _ _ _ _ _ _ _ _ _ _ _ _ _ _ _ _ _ ⟨j, m + 1, kk, ts, by omega, by omega, by omega, rfl, by first | rfl | (congr 1), rfl, hts, HT, HF, HO, HB, rfl⟩, by split <;> omega⟩
      · have e : m + 1 = s.size := by omega
        have HF := Lib.hid (FIN.out (by rw [e]; exact endP_last))
        clear e
        go_wp2_with fail
        refine (HK.out _).mono ?_
        rintro _ _ ⟨rfl, rfl⟩
        go_wp2_with fail
        go_step3
        refine ⟨if j < m + 1 then (s.size - (m + 1)) * 8 + 7 else 0, lexJ_mk _ _ _ _ _ _ _ _ _ _ _ _ _ _ _ _ _ _ _ _ _ _ _ _ _ _ _ _ _ _ _ _ _ _ _ _ _ _ _ _ _ _ _ _ _ _ _ _ _ _ _ _ _ _ _ _ _ _ _ _ _ _ _ _ _ _ _ _ _ _ _ _ _ _ _ _ _ _ _ _ _ _ _ _ _ _ _ _ _ _ _ _ _ _ _ _ _ _ _ _ _ _ _ _ _ _ _ _ _ _ _ _ _ _ _ _ _ _ ⟨j, m + 1, kk, ts, by omega, by omega, by omega, rfl, by first | rfl | (congr 1), rfl, hts, HT, HF, HO, HB, rfl⟩, by split <;> omega⟩
    | 3, hR =>
      refine ⟨_, rfl, ?_⟩
      obtain ⟨j, m, ts, hjm, hms, rfl, rfl, hts, HT, HS, HO, HB, rfl⟩ := hR
      clear hR
      have hsl : ∀ wx, (Instr.slice 9 (.string s) (some (.int .i64 (j : Int))) (some (.int .i64 ((m : Int) + 1))) none).run Tryz.prog wx = .ok (.string (s.extract j (m + 1))) wx := fun wx => by
        have := run_slice_string (P := Tryz.prog) (w := wx) 9 s .i64 .i64 (j : Int) ((m : Int) + 1) Tryz.underlying9 (by omega) (by omega) (by omega)
        rw [this]; congr 3
      obtain ⟨kk, hkk⟩ : ∃ kk, PLex.kindOf (s.extract j (m + 1)).data.toList = kk := ⟨_, rfl⟩
      have HK : Hid (∀ w, Calls Tryz.prog 49 #[.string (s.extract j (m + 1))] w fun e w' => e = .returned (.int .i64 (kk : Nat)) ∧ w = w') := Lib.hid (fun w => by have := numkind_any (s.extract j (m + 1)) w (by rw [ByteArray.size_extract]; omega) (by rw [ByteArray.size_extract]; omega); rw [hkk] at this; exact this)
      have fin : endP PLex.isRun s (m + 1) = m + 1 → (j = m + 1 → (stepAt s j).1 = 0) ∧ (j < m + 1 → stepAt s j = (kk, m + 1 - j) ∧ kk ≠ 6) := fun e => by
        refine ⟨fun k => by omega, fun _ => ⟨?_, by rw [← hkk]; unfold PLex.kindOf; (repeat' split) <;> omega⟩⟩
        rw [HS.out, e, ← hkk, slice_list]
      have FIN := Lib.hid fin
      have IH := Lib.hid (fun n' a' w' => ih 4 n' a' w')
      clear fin hkk ih
      by_cases hlt : m + 1 < s.size
      · cases hd : PLex.isDig s[m + 1] with
        | true =>
          have HS2 : Hid (stepAt s j = (PLex.kindOf ((s.data.toList.drop j).take (endP PLex.isRun s (m + 1 + 1) - j)), endP PLex.isRun s (m + 1 + 1) - j)) := Lib.hid (by rw [HS.out, endP_yes hlt (dig_run hd)])
          have HC2 : Hid (∀ w, Calls Tryz.prog 46 #[.int .u8 (s[m + 1]).toNat] w fun e w' => e = .returned (.bool true) ∧ w = w') := Lib.hid (fun w => by have := isdigit_any s[m + 1] w; rw [hd] at this; exact this)
          clear hd IH
          go_wp2_with fail
          refine (HC2.out _).mono ?_
          rintro _ _ ⟨rfl, rfl⟩
          go_wp2_with fail
          go_step3
          refine ⟨(s.size - (m + 1)) * 8 + 1, lexJ_mk _ _ _ _ _ _ _ _ _ _ _ _ _ _ _ _ _ _ _ _ _ _ _ _ _ _ _ _ _ _ _ _ _ _ _ _ _ _ _ _ _ _ _ _ _ _ _ _ _ _ _ _ _ _ _ _ _ _ _ _ _ _ _ _ _ _ _ _ _ _ _ _ _ _ _ _ _ _ _ _ _ _ _ _ _ _ _ _ _ _ _ _ _ _ _ _ _ _ _ _ _ _ _ _ _ _ _ _ _ _ _ _ _ _ _ _ _ _ ⟨j, m + 1, ts, by omega, hlt, rfl, by first | rfl | (congr 1), hts, HT, HS2, HO, HB, rfl⟩, by omega⟩
        | false =>
          have HC2 : Hid (∀ w, Calls Tryz.prog 46 #[.int .u8 (s[m + 1]).toNat] w fun e w' => e = .returned (.bool false) ∧ w = w') := Lib.hid (fun w => by have := isdigit_any s[m + 1] w; rw [hd] at this; exact this)
          by_cases h46 : s[m + 1] = 46
          · have HS2 : Hid (stepAt s j = (PLex.kindOf ((s.data.toList.drop j).take (endP PLex.isRun s (m + 1 + 1) - j)), endP PLex.isRun s (m + 1 + 1) - j)) := Lib.hid (by rw [HS.out, endP_yes hlt (by rw [h46]; rfl)])
            have b1 := byte_eq (n := 46) rfl h46
            clear hd IH h46
            go_wp2_with fail
            refine (HC2.out _).mono ?_
            rintro _ _ ⟨rfl, rfl⟩
            go_wp2_with fail
            go_step3
            refine ⟨(s.size - (m + 1)) * 8 + 1, lexJ_mk _ _ _ _ _ _ _ _ _ _ _ _ _ _ _ _ _ _ _ _ _ _ _ _ _ _ _ _ _ _ _ _ _ _ _ _ _ _ _ _ _ _ _ _ _ _ _ _ _ _ _ _ _ _ _ _ _ _ _ _ _ _ _ _ _ _ _ _ _ _ _ _ _ _ _ _ _ _ _ _ _ _ _ _ _ _ _ _ _ _ _ _ _ _ _ _ _ _ _ _ _ _ _ _ _ _ _ _ _ _ _ _ _ _ _ _ _ _ ⟨j, m + 1, ts, by omega, hlt, rfl, by first | rfl | (congr 1), hts, HT, HS2, HO, HB, rfl⟩, by omega⟩
          have b1 := byte_ne (n := 46) rfl h46
          by_cases h37 : s[m + 1] = 37
          · have HS2 : Hid (stepAt s j = (PLex.kindOf ((s.data.toList.drop j).take (endP PLex.isRun s (m + 1 + 1) - j)), endP PLex.isRun s (m + 1 + 1) - j)) := Lib.hid (by rw [HS.out, endP_yes hlt (by rw [h37]; rfl)])
            have b2 := byte_eq (n := 37) rfl h37
            clear hd IH h46 h37
            go_wp2_with fail
            refine (HC2.out _).mono ?_
            rintro _ _ ⟨rfl, rfl⟩
            go_wp2_with fail
            go_step3
            refine ⟨(s.size - (m + 1)) * 8 + 1, lexJ_mk _ _ _ _ _ _ _ _ _ _ _ _ _ _ _ _ _ _ _ _ _ _ _ _ _ _ _ _ _ _ _ _ _ _ _ _ _ _ _ _ _ _ _ _ _ _ _ _ _ _ _ _ _ _ _ _ _ _ _ _ _ _ _ _ _ _ _ _ _ _ _ _ _ _ _ _ _ _ _ _ _ _ _ _ _ _ _ _ _ _ _ _ _ _ _ _ _ _ _ _ _ _ _ _ _ _ _ _ _ _ _ _ _ _ _ _ _ _ ⟨j, m + 1, ts, by omega, hlt, rfl, by first | rfl | (congr 1), hts, HT, HS2, HO, HB, rfl⟩, by omega⟩
          have b2 := byte_ne (n := 37) rfl h37
          have HF := Lib.hid (FIN.out (endP_no hlt (by unfold PLex.isRun; rw [hd]; simp [h46, h37])))
          clear hd h46 h37
          go_wp2_with fail
          refine (HC2.out _).mono ?_
          rintro _ _ ⟨rfl, rfl⟩
          go_wp2_with fail
          refine (HK.out _).mono ?_
          rintro _ _ ⟨rfl, rfl⟩
          go_wp2_with fail
          go_step3
          go_step
          go_step
          obtain ⟨rest, hr, hw⟩ := IH.out (if j < m + 1 then (s.size - (m + 1)) * 8 + 7 else 0) _ _ (by split <;> omega) (lexJ_mk _ _ _ _ _ _ _ _ _ _ _ _ _ _ _ _ _ _ _ _ _ _ _ _ _ _ _ _ _ _ _ _ _ _ _ _ _ _ _ _ _ _ _ _ _ _ _ _ _ _ _ _ _ _ _ _ _ _ _ _ _ _ _ _ _ _ _ _ _ _ _ _ _ _ _ _ _ _ _ _ _ _ _ _ _ _ _ _ _ _ _ _ _ _ _ _ _ _ _ _ _ _ _ _ _ _ _ _ _ _ _ _ _ _ _ _ _ _ ⟨j, m + 1, kk, ts, by omega, by omega, by omega, rfl, by first | rfl | (congr 1), rfl, hts, HT, HF, HO, HB, rfl⟩)
          obtain rfl := (Code.seq.inj (Option.some.inj hr)).2
          exact hw
      · have e : m + 1 = s.size := by omega
        have HF := Lib.hid (FIN.out (by rw [e]; exact endP_last))
        clear e
        go_wp2_with fail
        refine (HK.out _).mono ?_
        rintro _ _ ⟨rfl, rfl⟩
        go_wp2_with fail
        go_step3
        go_step
        go_step
        obtain ⟨rest, hr, hw⟩ := IH.out (if j < m + 1 then (s.size - (m + 1)) * 8 + 7 else 0) _ _ (by split <;> omega) (lexJ_mk _ _ _ _ _ _ _ _ _ _ _ _ _ _ _ _ _ _ _ _ _ _ _ _ _ _ _ _ _ _ _ _ _ _ _ _ _ _ _ _ _ _ _ _ _ _ _ _ _ _ _ _ _ _ _ _ _ _ _ _ _ _ _ _ _ _ _ _ _ _ _ _ _ _ _ _ _ _ _ _ _ _ _ _ _ _ _ _ _ _ _ _ _ _ _ _ _ _ _ _ _ _ _ _ _ _ _ _ _ _ _ _ _ _ _ _ _ _ ⟨j, m + 1, kk, ts, by omega, by omega, by omega, rfl, by first | rfl | (congr 1), rfl, hts, HT, HF, HO, HB, rfl⟩)
        obtain rfl := (Code.seq.inj (Option.some.inj hr)).2
        exact hw
    | 4, hR =>
      refine ⟨_, rfl, ?_⟩
      clear ih
      obtain ⟨j, m, kk, ts, hjm, hjs, hms, rfl, rfl, rfl, hts, HT, HS, HO, HB, hn⟩ := hR
      by_cases hlt : j < m
      · rw [if_pos hlt] at hn
        subst hn
        obtain ⟨hst, h6⟩ := HS.out.2 hlt
        by_cases h0 : kk = 0
        · have HF := Lib.hid (told_bad HT.out hjs (by rw [hst, h0]))
          subst h0
          clear hst h6 HS hR
          go_wp2_with fail
          simp only [Exit.jumps]
          go_ret3
          exact lexAns_bad HF.out HB.out
        · have HT2 : Hid (told s m (ts ++ [⟨kk, (s.data.toList.drop j).take (m - j), j⟩])) := Lib.hid (by
            have := told_word HT.out hjs hst h0 h6
            rw [show j + (m - j) = m by omega] at this; exact this)
          have k0 : ((kk : Int) == 0) = false := by rw [beq_eq_false_iff_ne]; omega
          have HC : Hid (∀ w, Calls Tryz.prog 50 #[.string (s.extract j m)] w fun e w' => e = .returned (.string (s.extract j m)) ∧ Below w.heap.size w w') := Lib.hid (fun w => clone_any _ w (by rw [ByteArray.size_extract]; omega))
          clear hst h6 h0 HS hR
          go_wp2_with fail
          refine (HC.out _).mono ?_
          rintro _ w1 ⟨rfl, hb⟩
          have HO2 := Lib.hid (own_stays HO.out hb)
          have HB2 := Lib.hid (below_step HB.out hb)
          have hsz := HB2.out.size
          clear hb HB HO
          go_wp2_with (at_builtin; refine append_tok lex_tokTy rfl _ _ rfl w.heap.size _ ts kk (s.extract j m) j (by rfl) HO2.out (by rfl) (by omega) hsz ?_)
          intro v' w7 hown hb7
          have HO7 : Hid (w7.ownsRow w.heap.size 82 3 v' (ts.length + 1) (cellsT (ts ++ [⟨kk, (s.data.toList.drop j).take (m - j), j⟩]))) := Lib.hid (by first | exact hown | (rw [← slice_list]; exact hown))
          have HB7 := Lib.hid (HB2.out.trans hb7)
          clear hown hb7
          go_wp2_with fail
          go_step3
          refine ⟨(s.size - m) * 8 + 5, lexJ_mk _ _ _ _ _ _ _ _ _ _ _ _ _ _ _ _ _ _ _ _ _ _ _ _ _ _ _ _ _ _ _ _ _ _ _ _ _ _ _ _ _ _ _ _ _ _ _ _ _ _ _ _ _ _ _ _ _ _ _ _ _ _ _ _ _ _ _ _ _ _ _ _ _ _ _ _ _ _ _ _ _ _ _ _ _ _ _ _ _ _ _ _ _ _ _ _ _ _ _ _ _ _ _ _ _ _ _ _ _ _ _ _ _ _ _ _ _ _ ⟨m, ts ++ [⟨kk, (s.data.toList.drop j).take (m - j), j⟩], hms, rfl, by rw [List.length_append]; simp; omega, HT2, Lib.hid (by rw [List.length_append, List.length_singleton]; exact HO7.out), HB7, rfl⟩, by omega⟩
      · obtain rfl : j = m := by omega
        have HF := Lib.hid (told_bad (n := (stepAt s j).2) HT.out hjs (Prod.ext (HS.out.1 rfl) rfl))
        clear hR HS
        go_wp2_with fail
        simp only [Exit.jumps]
        go_ret3
        exact lexAns_bad HF.out HB.out
    | n + 5, hR => exact hR.elim
  · intro hp
    have hp0 := hp 0
    clear hp
    go_wp2_with fail
    go_step3
    go_step
    go_step
    have hJ0 := lexJ_mk (s := s) (w0 := w) (l := 0) (n := (s.size - 0) * 8 + 5) (wr := w.alloc (.cells #[] 82)) (o := .slice (some ⟨w.heap.size, 0, none⟩) 0 0) (ta := .int .i64 0) (te := .int .i64 0) (tk := .int .i64 0) undef (.slice (some ⟨w.heap.size, 0, none⟩) 0 0) undef undef undef undef undef undef undef undef undef undef undef undef undef undef undef undef undef undef undef undef undef undef undef undef undef undef undef undef undef undef undef undef undef undef undef undef undef undef undef undef undef undef undef undef undef undef undef undef undef undef undef undef undef undef undef undef undef undef undef undef undef undef undef undef undef undef undef undef undef undef undef undef undef undef undef undef undef undef undef undef undef undef undef undef undef undef undef undef undef undef undef undef undef undef undef undef undef undef undef undef undef undef undef undef undef undef undef undef undef undef undef undef undef undef undef undef (show LexR s w 0 _ _ _ _ _ _ from ⟨0, [], Nat.zero_le _, rfl, Nat.le_refl _, (show Hid _ from told_first s), (show Hid _ from World.ownsRow_made w #[] 0 (Nat.le_refl _) (by decide) rfl), (show Hid _ from (Below.refl _ _).alloc (Nat.le_refl _) _), rfl⟩)
    obtain ⟨rest, hr, hw⟩ := hp0 _ _ _ hJ0
    clear hp0 hJ0
    obtain rfl := (Code.seq.inj (Option.some.inj hr)).2
    exact hw
end Go.Proofs.YtdkcdgjpcojdfaaGreatDoor
