/- Rows of nodes, of runs, held against each other in memory: a walk that only reads. -/
import Derived.Test.YtknlhhbkahollaaSamem
import Derived.Test.YtknlhhbkahollaaLow2
import Derived.Test.YtknlhhbkahollaaLow4
import Derived.Laws.StructEq
import Derived.BigQuiet
namespace Go.Proofs.Ytknlhhbkahollaa
open Go.RowKit Tab
set_option linter.unusedSimpArgs false
set_option linter.unusedVariables false

/-- It answers v, and turns nothing; it may draw. -/
def Qui (v : Value) (w : World) (e : Ending) (w' : World) : Prop := e = .returned v ∧ ∃ m, w' = w.drewN m
theorem Qui.ans {v : Value} {w w' : World} {e : Ending} (h : Qui v w e w') : Ans v w e w' := by
  obtain ⟨h1, m, rfl⟩ := h
  exact ⟨h1, Below.drewN (Below.refl _ _) m⟩
/-- In a quiet walk behind draws. -/
theorem Qui.sum {P : Program} {f : FuncId} {args : Array Value} {w : World} {q n : Nat} {v : Value} (h : Calls P f args (w.drewN (q + n)) (Qui v (w.drewN (q + n)))) : Calls P f args (w.drewN (q + n)) fun e w'' => e = .returned v ∧ ∃ m, w'' = w.drewN (q + m) :=
  h.mono fun _ _ ⟨he, m, hm⟩ => ⟨he, n + m, by rw [hm, World.drewN_drewN, Nat.add_assoc]⟩
theorem nd_neqs (x y : Nd) (W : World) : (binOp .neq 79 (nd x.k x.p x.n) (nd y.k y.p y.n)).run Try.prog W = .ok (.bool (!(ndEq x y))) W := by
  obtain ⟨a, b, c⟩ := x
  obtain ⟨d, e, f⟩ := y
  unfold ndEq
  by_cases h1 : a = d
  · by_cases h2 : b = e
    · by_cases h3 : c = f
      · subst h1; subst h2; subst h3
        simp [run_neq_struct, go_sem]
      · subst h1; subst h2
        simp [run_neq_struct, go_sem, h3]
    · subst h1
      simp [run_neq_struct, go_sem, h2]
  · simp [run_neq_struct, go_sem, h1]
theorem rn_neqs (x y : Rn) (W : World) : (binOp .neq 88 (rv x.p (x.n : Int)) (rv y.p (y.n : Int))).run Try.prog W = .ok (.bool (!(rnEq x y))) W := by
  obtain ⟨a, b⟩ := x
  obtain ⟨d, e⟩ := y
  unfold rnEq
  by_cases h1 : a = d
  · by_cases h2 : b = e
    · subst h1; subst h2
      simp [run_neq_struct, go_sem]
    · subst h1
      have h3 : ¬ (b : Int) = (e : Int) := by omega
      simp [run_neq_struct, go_sem, h2, h3]
  · simp [run_neq_struct, go_sem, h1]
end Go.Proofs.Ytknlhhbkahollaa
