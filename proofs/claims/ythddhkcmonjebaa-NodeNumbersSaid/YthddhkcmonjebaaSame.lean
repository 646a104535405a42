/- Rows that are the same. -/
import Derived.Test.YthddhkcmonjebaaRight
import Derived.Laws.StructEq
namespace Go.Proofs.Ythddhkcmonjebaa
open Go.RowKit Tab
set_option linter.unusedSimpArgs false
set_option linter.unusedVariables false

theorem nd_neq (k p n : Int) (W : World) : (binOp .neq 33 (nd k p n) (nd k p n)).run Try.prog W = .ok (.bool false) W := by
  simp [run_neq_struct, go_sem]
set_option maxRecDepth 100000 in
set_option maxHeartbeats 800000 in
theorem equal_same (A1 A2 : Option Addr) (n c1 c2 : Nat) (l : List Nd) (w : World) (h1 : RdN w w.heap.size A1 n l) (h2 : RdN w w.heap.size A2 n l) (hn : n ≤ 1048576) :
    Calls Try.prog 32 #[.slice A1 n c1, .slice A2 n c2] w (Ans (.bool true) w) := by
  go_enter Try.func32, Try.ntmps32
  go_wp2_with fail
  go_loopw [5, 13] (fun _ s wr => ∃ i : Nat, i ≤ n ∧ s = .int .i64 i ∧ Below w.heap.size w wr) (fun _ s _ => n - (intOf s).toNat)
  case atStart => exact ⟨0, by omega, rfl, Below.refl _ _⟩
  case round =>
    obtain ⟨i, hi, rfl, hb⟩ := hrel
    by_cases hlt : i < n
    · obtain ⟨ad, x, rfl, _, hx, hin, c0, c1', c2'⟩ := (h1.on hb).at_ hlt
      obtain ⟨ad2, x2, rfl, _, hx2, hin2, d0, d1, d2⟩ := (h2.on hb).at_ hlt
      rw [hx] at hx2
      injection hx2 with hx2
      subst hx2
      obtain ⟨xk, xp, xn⟩ := x
      clear hx hin hin2
      have hne := nd_neq xk xp xn
      go_wp2_with fail
      go_quiet (fail)
      go_wp2_with fail
      go_roundw
      case rel => exact ⟨i + 1, by omega, by go_num, ⟨hb.os, hb.tape, hb.output, hb.size, hb.block⟩⟩
      case measure => simp [intOf]; omega
    · have hge : n ≤ i := by omega
      go_wp2_with fail
      go_ret
      exact Ans.mk rfl hb
set_option maxHeartbeats 400000 in
theorem same_self (A1 A2 : Option Addr) (n c1 c2 : Nat) (l : List Nd) (w : World) (h1 : RdN w w.heap.size A1 n l) (h2 : RdN w w.heap.size A2 n l) (hn : n ≤ 1048576) :
    Calls Try.prog 19 #[.slice A1 n c1, .slice A2 n c2] w (Ans (.bool true) w) := by
  go_enter Try.func19, Try.ntmps19
  go_wp2_with fail
  refine (equal_same A1 A2 n c1 c2 l w h1 h2 hn).mono ?_
  rintro e w1 ⟨rfl, hb1⟩
  go_wp2_with fail
  go_ret
  exact Ans.mk rfl hb1
set_option maxHeartbeats 400000 in
theorem same_other (A1 A2 : Option Addr) (n m c1 c2 : Nat) (w : World) (hne : ¬ n = m) :
    Calls Try.prog 19 #[.slice A1 n c1, .slice A2 m c2] w (Ans (.bool false) w) := by
  have h1 : ((n : Int) == (m : Int)) = false := beq_eq_false_iff_ne.2 (by omega)
  have h2 : ((n : Int) != (m : Int)) = true := by rw [bne, h1]; rfl
  go_enter Try.func19, Try.ntmps19
  go_wp2
  go_ret
  exact Ans.mk rfl (Below.refl _ _)
set_option maxRecDepth 100000 in
set_option maxHeartbeats 800000 in
theorem ints_same (A1 A2 : Option Addr) (n c1 c2 : Nat) (l : List Int) (w : World) (h1 : RdI w w.heap.size A1 n l) (h2 : RdI w w.heap.size A2 n l) (hn : n ≤ 1048576) :
    Calls Try.prog 24 #[.slice A1 n c1, .slice A2 n c2] w (Ans (.bool true) w) := by
  go_enter Try.func24, Try.ntmps24
  go_wp2_with fail
  go_loopw [5] (fun s wr => ∃ i : Nat, i ≤ n ∧ s = .int .i64 i ∧ Below w.heap.size w wr) (fun s _ => n - (intOf s).toNat)
  case atStart => exact ⟨0, by omega, rfl, Below.refl _ _⟩
  case round =>
    obtain ⟨i, hi, rfl, hb⟩ := hrel
    by_cases hlt : i < n
    · obtain ⟨ad, x, rfl, _, hx, c0⟩ := (h1.on hb).at_ hlt
      obtain ⟨ad2, x2, rfl, _, hx2, d0⟩ := (h2.on hb).at_ hlt
      rw [hx] at hx2
      injection hx2 with hx2
      subst hx2
      clear hx
      go_wp2_with fail
      go_quiet (fail)
      go_wp2_with fail
      go_roundw
      case rel => exact ⟨i + 1, by omega, by go_num, ⟨hb.os, hb.tape, hb.output, hb.size, hb.block⟩⟩
      case measure => simp [intOf]; omega
    · have hge : n ≤ i := by omega
      go_wp2_with fail
      go_ret
      exact Ans.mk rfl hb
end Go.Proofs.Ythddhkcmonjebaa
