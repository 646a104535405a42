/- The path of open nodes in memory: how often the next node is gone through; the path behind a node. -/
import Derived.Test.YtknlhhbkahollaaLow1
import Derived.Test.YtknlhhbkahollaaLow3
namespace Go.Proofs.Ytknlhhbkahollaa
open Go.RowKit Tab
set_option linter.unusedSimpArgs false
set_option linter.unusedVariables false

/-- A path as cells: the outermost first. -/
def os : List (Nat × Nat) → List Value
  | [] => []
  | (a, t) :: o => os o ++ [.int .i64 (a : Int), .int .i64 (t : Int)]
theorem os_length (st : List (Nat × Nat)) : (os st).length = st.length * 2 := by
  induction st with
  | nil => rfl
  | cons e o ih => obtain ⟨a, t⟩ := e; simp only [os, List.length_append, ih, List.length_cons, List.length_nil]; omega
theorem os_last (a t : Nat) (o : List (Nat × Nat)) : (os ((a, t) :: o))[o.length * 2]? = some (.int .i64 (a : Int)) ∧ (os ((a, t) :: o))[o.length * 2 + 1]? = some (.int .i64 (t : Int)) := by
  have := os_length o
  constructor
  · simp only [os]; rw [List.getElem?_append_right (by omega), this, Nat.sub_self]; rfl
  · simp only [os]; rw [List.getElem?_append_right (by omega), this, show o.length * 2 + 1 - o.length * 2 = 1 by omega]; rfl
theorem os_set (a t : Nat) (o : List (Nat × Nat)) (b : Nat) : (os ((a, t) :: o)).set (o.length * 2) (.int .i64 (b : Int)) = os ((b, t) :: o) := by
  have := os_length o
  simp only [os]
  rw [List.set_append_right _ _ (by omega), this, Nat.sub_self]
  rfl
theorem os_dec (a t : Nat) (o : List (Nat × Nat)) (h : 1 ≤ a) : (os ((a, t) :: o)).set (o.length * 2) (.int .i64 ((a : Int) - 1)) = os ((a - 1, t) :: o) := by
  rw [show (a : Int) - 1 = ((a - 1 : Nat) : Int) by omega]
  exact os_set a t o (a - 1)
theorem OwnV.front {E s : Nat} {w : World} {B : Nat} {A : Option Addr} {n c : Nat} {l : List Value} (h : OwnV E s w B A n c l) (m : Nat) (hm : m ≤ n) : OwnV E s w B A m c (l.take (m * s)) := by
  have h0 : m * s ≤ n * s := Nat.mul_le_mul_right _ hm
  refine ⟨by rw [List.length_take, h.1]; omega, ?_⟩
  rcases h.2 with ⟨hv, hz⟩ | ⟨g, cap, cur, hv, hbg, hg, hnc, hcm, hcs, ht⟩
  · refine .inl ⟨?_, by omega⟩
    simp only [Value.slice.injEq] at hv ⊢
    exact ⟨hv.1, by omega, hv.2.2⟩
  · simp only [Value.slice.injEq] at hv
    obtain ⟨rfl, _, rfl⟩ := hv
    refine .inr ⟨g, c, cur, rfl, hbg, hg, by omega, hcm, hcs, ?_⟩
    rw [← ht, List.take_take, Nat.min_eq_left h0]
theorem os_take (a t : Nat) (o : List (Nat × Nat)) : (os ((a, t) :: o)).take (o.length * 2) = os o := by
  simp only [os]
  exact List.take_left' (os_length o)
theorem pops_more {a t : Nat} {o : List (Nat × Nat)} (h : 1 < a) : pops ((a, t) :: o) = (a - 1, t) :: o := by simp only [pops]; rw [if_pos h]
theorem pops_less {a t : Nat} {o : List (Nat × Nat)} (h : ¬ 1 < a) : pops ((a, t) :: o) = pops o := by simp only [pops]; rw [if_neg h]
end Go.Proofs.Ytknlhhbkahollaa
