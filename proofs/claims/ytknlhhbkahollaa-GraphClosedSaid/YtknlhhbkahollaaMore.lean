/- Ticks together. -/
import Derived.Test.YtknlhhbkahollaaLow1
namespace Go.Proofs.Ytknlhhbkahollaa
open Go.RowKit Tab
set_option linter.unusedSimpArgs false
set_option linter.unusedVariables false

theorem sum_any (s n S N : Int) (w : World) (hs : 0 ≤ s) (hn : 0 ≤ n) (h : s + n ≤ 4611686018427387904) (hS : S = s) (hN : N = n) :
    Calls Try.prog 49 #[.int .i64 S, .int .i64 N] w fun e w' => e = .returned (.int .i64 (s + n)) ∧ w' = w := by
  subst hS; subst hN
  have h1 : ¬ 9223372036854775807 - N < S := by omega
  have m1 : max S 0 = S := by omega
  have m2 : max N 0 = N := by omega
  go_enter Try.func49, Try.ntmps49
  go_wp2
  go_ret
  exact ⟨rfl, rfl⟩
end Go.Proofs.Ytknlhhbkahollaa
