/- Tables that may be, and others. -/
import Derived.Test.YtoaocdmcjjohgaaLow3
namespace Go.Proofs.Ytoaocdmcjjohgaa
open Go.RowKit Tab
set_option linter.unusedSimpArgs false
set_option linter.unusedVariables false

theorem rt_cases (n D T : Nat) : (rt n D T = 0 ∧ n ≤ 128 ∧ D ≤ 16 ∧ T ≤ 4096) ∨ ¬ rt n D T = 0 := by
  unfold rt
  by_cases h1 : 128 < n
  · rw [if_pos h1]; exact .inr (by omega)
  · by_cases h2 : 16 < D
    · rw [if_neg h1, if_pos h2]; exact .inr (by omega)
    · by_cases h3 : 4096 < T
      · rw [if_neg h1, if_neg h2, if_pos h3]; exact .inr (by omega)
      · rw [if_neg h1, if_neg h2, if_neg h3]; exact .inl ⟨rfl, by omega, by omega, by omega⟩
set_option maxHeartbeats 400000 in
theorem rright_long (A : Option Addr) (n cap : Nat) (w : World) (h1 : 128 < n) (hn : n ≤ 140737488351232) : Calls Try.prog 33 #[.slice A n cap] w (Ans (.int .i64 3) w) := by
  have h1' : (128 : Int) < (n : Int) := by omega
  go_enter Try.func33, Try.ntmps33
  go_wp2_with fail
  go_ret
  exact ⟨rfl, Below.refl _ _⟩
end Go.Proofs.Ytoaocdmcjjohgaa
