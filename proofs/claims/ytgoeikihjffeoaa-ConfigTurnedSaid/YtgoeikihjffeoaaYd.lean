/- Whether partitions are the same: by the document's own answer, exactly. -/
import Derived.Test.YtgoeikihjffeoaaLow8
import Derived.Test.YtgoeikihjffeoaaBestm
import Derived.Test.YtgoeikihjffeoaaSamb
import Derived.Test.YtgoeikihjffeoaaFold
import Derived.Test.YtgoeikihjffeoaaLow4
import Derived.Laws.MakeOwn
import Derived.Laws.OwnMore
import Derived.BigQuiet
import Derived.Laws.StructEq
namespace Go.Proofs.Ytgoeikihjffeoaa
open Go.RowKit Tab
set_option linter.unusedSimpArgs false
set_option linter.unusedVariables false

def heq5 (a0 a1 a2 a3 a4 b0 b1 b2 b3 b4 : Int) : Bool := decide (a0 = b0 ∧ a1 = b1 ∧ a2 = b2 ∧ a3 = b3 ∧ a4 = b4)
set_option maxRecDepth 100000 in
set_option maxHeartbeats 2000000 in
theorem arr5_eq (a0 a1 a2 a3 a4 b0 b1 b2 b3 b4 : Int) (W : World) : (Op.equalIn 10000 42 (.agg #[.int .i64 a0, .int .i64 a1, .int .i64 a2, .int .i64 a3, .int .i64 a4]) (.agg #[.int .i64 b0, .int .i64 b1, .int .i64 b2, .int .i64 b3, .int .i64 b4])).run Try.prog W =
    .ok (heq5 a0 a1 a2 a3 a4 b0 b1 b2 b3 b4) W := by
  have u3 := Try.underlying3
  have a3' := Try.isAgg3
  have z3 := Try.sizeOf3
  rw [show (10000 : Nat) = 9999 + 1 from rfl, Op.equalIn]
  simp only [Sem.run_bind, run_underlying Try.underlying42, Result.andThen_ok]
  simp only [Std.Legacy.Range.forIn_eq_forIn_range', Std.Legacy.Range.size, Nat.sub_zero, Nat.add_sub_cancel, Nat.div_one, List.range'_succ, List.range'_zero, List.forIn_cons, List.forIn_nil]
  unfold heq5
  go_simp
  by_cases h0 : a0 = b0
  · by_cases h1 : a1 = b1
    · by_cases h2 : a2 = b2
      · by_cases h3 : a3 = b3
        · by_cases h4 : a4 = b4 <;> simp [h0, h1, h2, h3, h4]
        · simp [h0, h1, h2, h3]
      · simp [h0, h1, h2]
    · simp [h0, h1]
  · simp [h0]
theorem arr5_neq (a0 a1 a2 a3 a4 b0 b1 b2 b3 b4 : Int) (W : World) : (binOp .neq 42 (.agg #[.int .i64 a0, .int .i64 a1, .int .i64 a2, .int .i64 a3, .int .i64 a4]) (.agg #[.int .i64 b0, .int .i64 b1, .int .i64 b2, .int .i64 b3, .int .i64 b4])).run Try.prog W =
    .ok (.bool (!(heq5 a0 a1 a2 a3 a4 b0 b1 b2 b3 b4))) W := by
  rw [run_neq_struct, arr5_eq]
  rfl
theorem pc_neqs (a b c d : Int) (W : World) : (binOp .neq 55 (.agg #[.int .i64 a, .int .i64 b]) (.agg #[.int .i64 c, .int .i64 d])).run Try.prog W = .ok (.bool (!(decide ((a, b) = (c, d))))) W := by
  by_cases h1 : a = c
  · by_cases h2 : b = d
    · subst h1; subst h2
      simp [run_neq_struct, go_sem]
    · subst h1
      simp [run_neq_struct, go_sem, h2]
  · simp [run_neq_struct, go_sem, h1]
/-- The same partition, whatever holds its processes. -/
def SameP (x y : Pq) : Prop := x.1.name = y.1.name ∧ x.1.bud = y.1.bud ∧ x.1.per = y.1.per ∧ x.1.sched = y.1.sched ∧ x.1.stop = y.1.stop ∧ (x.1.h0 = y.1.h0 ∧ x.1.h1 = y.1.h1 ∧ x.1.h2 = y.1.h2 ∧ x.1.h3 = y.1.h3 ∧ x.1.h4 = y.1.h4) ∧ x.2 = y.2
instance (x y : Pq) : Decidable (SameP x y) := by unfold SameP; infer_instance
end Go.Proofs.Ytgoeikihjffeoaa
