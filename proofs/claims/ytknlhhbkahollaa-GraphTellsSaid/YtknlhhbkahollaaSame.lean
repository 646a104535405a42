/- Rows that are the same. -/
import Derived.Test.YtknlhhbkahollaaLow4
import Derived.Laws.StructEq
namespace Go.Proofs.Ytknlhhbkahollaa
open Go.RowKit Tab
set_option linter.unusedSimpArgs false
set_option linter.unusedVariables false

theorem nd_neq (k p n : Int) (W : World) : (binOp .neq 79 (nd k p n) (nd k p n)).run Try.prog W = .ok (.bool false) W := by
  simp [run_neq_struct, go_sem]
set_option maxRecDepth 100000 in
set_option maxHeartbeats 800000 in
theorem ints_same (A1 A2 : Option Addr) (n c1 c2 : Nat) (l : List Int) (w : World) (h1 : RdI w w.heap.size A1 n l) (h2 : RdI w w.heap.size A2 n l) (hn : n ≤ 1048576) :
    Calls Try.prog 27 #[.slice A1 n c1, .slice A2 n c2] w (Ans (.bool true) w) := by
  go_enter Try.func27, Try.ntmps27
  go_wp2_with fail
  go_loopw [5] (fun s wr => ∃ i : Nat, i ≤ n ∧ s = .int .i64 i ∧ Below w.heap.size w wr) (fun s _ => n - (intOf s).toNat)
  case atStart => exact ⟨0, by omega, rfl, Below.refl _ _⟩
  case round =>
    obtain ⟨i, hi, rfl, hb⟩ := hrel
    by_cases hlt : i < n
    · obtain ⟨ad, x, rfl, _, hx, c0⟩ := (h1.on hb).at_ hlt
      obtain ⟨ad2, x2, rfl, _, hx2, d0⟩ := (h2.on hb).at_ hlt
      rw [hx] at hx2
      injection hx2 with hx2
      subst hx2
      clear hx
      go_wp2_with fail
      go_quiet (fail)
      go_wp2_with fail
      go_roundw
      case rel => exact ⟨i + 1, by omega, by go_num, ⟨hb.os, hb.tape, hb.output, hb.size, hb.block⟩⟩
      case measure => simp [intOf]; omega
    · have hge : n ≤ i := by omega
      go_wp2_with fail
      go_ret
      exact Ans.mk rfl hb
end Go.Proofs.Ytknlhhbkahollaa
