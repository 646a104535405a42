/- What one node is to the program, and to the document's own answer. -/
import Derived.Test.YtpjppglaieohlaaBase
import Derived.Test.YtpjppglaieohlaaTree
import Derived.OwnWalk
namespace Go.Proofs.Ytpjppglaieohlaa
open Go.RowKit Tab
set_option linter.unusedSimpArgs false
set_option linter.unusedVariables false

/-- It answers v, and leaves what was there. -/
def Ans (v : Value) (w : World) (e : Ending) (w' : World) : Prop := e = .returned v ∧ Below w.heap.size w w'
theorem Ans.mk {v u : Value} {w w' : World} (h : v = u) (hb : Below w.heap.size w w') : Ans v w (.returned u) w' := ⟨by rw [h], hb⟩
theorem bl1 (w : World) (o : Obj) : Below w.heap.size w (w.alloc o) := (Below.refl _ _).alloc (Nat.le_refl _) _
abbrev nd (k p n : Int) : Value := .agg #[.int .i64 k, .int .i64 p, .int .i64 n]
/-- How many children, as a number. -/
def kz (x : Nd) : Int := if x.k = 3 then x.n else if x.k = 4 then 1 else 0

theorem kz_kn {x : Nd} (h : fine x = true) : kz x = (kn x : Int) := by
  have h1 := fine_one h
  unfold kz kn
  split
  · omega
  · split <;> rfl

set_option maxHeartbeats 400000 in
theorem kids1_any (k p n : Int) (w : World) : Calls Try.prog 38 #[nd k p n] w (Ans (.int .i64 (kz ⟨k, p, n⟩)) w) := by
  go_enter Try.func38, Try.ntmps38
  go_wp2
  all_goals
    go_ret
    refine Ans.mk ?_ (bl1 _ _)
    simp only [beq_iff_eq, beq_eq_false_iff_ne, ne_eq] at *
    simp [kz, *]
theorem fine_iff (k p n : Int) : fine ⟨k, p, n⟩ = true ↔ 1 ≤ n ∧ ((k = 1 ∧ 0 ≤ p ∧ p < 6) ∨ (k = 2 ∧ p = 0) ∨ (k = 4 ∧ p = 0) ∨ (k = 3 ∧ p = 0 ∧ n ≤ 128)) := by
  unfold fine
  simp only [Bool.and_eq_true, decide_eq_true_eq]
  split
  · simp; omega
  · split
    · simp; omega
    · split
      · simp; omega
      · simp; omega
set_option maxHeartbeats 1600000 in
theorem right1_any (k p n : Int) (w : World) : Calls Try.prog 49 #[nd k p n] w (Ans (.bool (fine ⟨k, p, n⟩)) w) := by
  have hf := Lib.hid (fine_iff k p n)
  go_enter Try.func49, Try.ntmps49
  go_wp2
  all_goals
    go_ret
    refine Ans.mk (congrArg Value.bool ?_) (bl1 _ _)
    rw [Bool.eq_iff_iff, fine_iff]
    simp only [decide_eq_true_eq, beq_iff_eq, beq_eq_false_iff_ne, ne_eq, Bool.false_eq_true, iff_false] at *
    omega
set_option maxHeartbeats 1600000 in
theorem fine1_any (k p n : Int) (w : World) : Calls Try.prog 52 #[nd k p n] w (Ans (.bool (fine ⟨k, p, n⟩)) w) := by
  go_enter Try.func52, Try.ntmps52
  go_wp2
  all_goals
    go_ret
    refine Ans.mk (congrArg Value.bool ?_) (bl1 _ _)
    rw [Bool.eq_iff_iff, fine_iff]
    simp only [decide_eq_true_eq, beq_iff_eq, beq_eq_false_iff_ne, ne_eq, Bool.false_eq_true, iff_false] at *
    omega
/-- A product, held at 4097. -/
def hl (a b : Int) : Int := if 4096 < a * b then 4097 else a * b
set_option maxHeartbeats 400000 in
theorem held_any (a b : Int) (w : World) (ha : 1 ≤ a) (hb : 1 ≤ b) (hb2 : b ≤ 4097) (ha2 : a ≤ 9223372036854775807) : Calls Try.prog 39 #[.int .i64 a, .int .i64 b] w fun e w' => e = .returned (.int .i64 (hl a b)) ∧ w = w' := by
  by_cases h : 4096 / b < a
  · have h2 : 4096 < a * b := (Int.ediv_lt_iff_lt_mul (by omega)).1 h
    have hb0 : ¬ b = 0 := by omega
    have e : hl a b = 4097 := if_pos h2
    have H := Lib.hid e
    clear e h2
    go_enter Try.func39, Try.ntmps39
    go_wp2
    go_ret
    exact ⟨by rw [H.out]; rfl, rfl⟩
  · have h2 : ¬ 4096 < a * b := fun h' => h ((Int.ediv_lt_iff_lt_mul (by omega)).2 h')
    have hb0 : ¬ b = 0 := by omega
    have h3 : 0 < a * b := Int.mul_pos (by omega) (by omega)
    have e : hl a b = a * b := if_neg h2
    have H := Lib.hid e
    clear e
    go_enter Try.func39, Try.ntmps39
    go_wp2
    go_ret
    exact ⟨by rw [H.out]; rfl, rfl⟩
end Go.Proofs.Ytpjppglaieohlaa
