/- May two be turned about: by the program. -/
import Derived.Test.YtcmdhaieggjgcaaGswa
namespace Go.Proofs.Ytcmdhaieggjgcaa
open Go.RowKit Tab
set_option linter.unusedSimpArgs false
set_option linter.unusedVariables false

def freeF (P : List Pt) (C : List Ch) (a b : Int) : Bool := (decide (a = -1) || inP P.length a) && (decide (b = -1) || inP P.length b) && (decide (a = -1) || decide (b = -1) || !depF P C a.toNat b.toNat)
theorem inP_no {n : Nat} {p : Int} (h : p = -1) : inP n p = false := by rw [Bool.eq_false_iff]; intro e; rw [inP_iff] at e; omega
end Go.Proofs.Ytcmdhaieggjgcaa
