/- A configuration of a tape that is boxed. -/
import Derived.Test.YtknlhhbkahollaaCfg
import Derived.Test.YtknlhhbkahollaaGway
namespace Go.Proofs.Ytknlhhbkahollaa
open Go.RowKit Tab
set_option linter.unusedSimpArgs false
set_option linter.unusedVariables false

/-- A configuration that is right, new. -/
def CfgX (w : World) (e : Ending) (w' : World) : Prop :=
  ∃ (A1 A2 A3 : Option Addr) (n1 n2 n3 c1 c2 c3 : Nat) (P : List PtV) (C : List ChV) (T : List TbV), e = .returned (.agg #[.slice A1 n1 c1, .slice A2 n2 c2, .slice A3 n3 c3]) ∧ CfW w' w'.heap.size A1 A2 n1 n2 P C ∧ 1 ≤ n1 ∧ n1 ≤ 4 ∧ n2 ≤ 3 ∧ n1 ≤ c1 ∧ n2 ≤ c2 ∧
    (∀ x ∈ C, ChOk n1 x) ∧ RdB tcl w' w'.heap.size A3 n3 T ∧ (∀ t ∈ T, TbAt w' w'.heap.size t ∧ Frame t) ∧ 1 ≤ n3 ∧ n3 ≤ 2 ∧ n3 ≤ c3 ∧ Below w.heap.size w w'
theorem config_box (A : Option Addr) (n cap : Nat) (f : Nat → Int) (w : World) (h : RdC w w.heap.size A n fun j => .int .i64 (f j)) (hn : n ≤ 140737488351232) :
    Calls Try.prog 9 #[.pointer (some ⟨w.heap.size, 0, none⟩)] (w.alloc (.cells #[.slice A n cap, .int .i64 0] 31)) (CfgX w) := by
  refine (config_any w.heap.size w.heap.size A n cap f hn 0 _ (tape_boxed A n cap f w h)).mono ?_
  rintro e w1 ⟨A1, A2, A3, n1, n2, n3, c1, c2, c3, P, C, T, at', rfl, hCf, q1, q2, q3, q4, q5, hco, hT, hTt, q6, q7, q8, _, G1⟩
  exact ⟨A1, A2, A3, n1, n2, n3, c1, c2, c3, P, C, T, rfl, hCf, q1, q2, q3, q4, q5, hco, hT, hTt, q6, q7, q8, gb_boxed G1⟩
end Go.Proofs.Ytknlhhbkahollaa
