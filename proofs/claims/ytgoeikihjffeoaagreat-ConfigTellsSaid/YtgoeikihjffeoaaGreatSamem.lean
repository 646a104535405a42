/- Rows that are the same, or not: plain mathematics. -/
import Derived.Test.YtgoeikihjffeoaaGreatLow2
namespace Go.Proofs.YtgoeikihjffeoaaGreat
namespace Tab

def ndEq (x y : Nd) : Bool := decide (x.k = y.k) && decide (x.p = y.p) && decide (x.n = y.n)
theorem ndEq_iff (x y : Nd) : ndEq x y = true ↔ x = y := by
  obtain ⟨a, b, c⟩ := x
  obtain ⟨d, e, f⟩ := y
  unfold ndEq
  simp [Nd.mk.injEq, and_assoc]
def sameN : List Nd → List Nd → Bool
  | [], [] => true
  | x :: a, y :: b => ndEq x y && sameN a b
  | _, _ => false
theorem sameN_iff (a b : List Nd) : sameN a b = true ↔ a = b := by
  induction a generalizing b with
  | nil => cases b <;> simp [sameN]
  | cons x a ih =>
    cases b with
    | nil => simp [sameN]
    | cons y b => simp only [sameN, Bool.and_eq_true, ndEq_iff, ih, List.cons.injEq]
theorem sameN_len {a b : List Nd} (h : ¬ a.length = b.length) : sameN a b = false := by
  cases hs : sameN a b with
  | false => rfl
  | true => rw [sameN_iff] at hs; rw [hs] at h; exact absurd rfl h
def rnEq (x y : Rn) : Bool := decide (x.p = y.p) && decide (x.n = y.n)
theorem rnEq_iff (x y : Rn) : rnEq x y = true ↔ x = y := by
  obtain ⟨a, b⟩ := x
  obtain ⟨d, e⟩ := y
  unfold rnEq
  simp [Rn.mk.injEq]
def sameR : List Rn → List Rn → Bool
  | [], [] => true
  | x :: a, y :: b => rnEq x y && sameR a b
  | _, _ => false
theorem sameR_iff (a b : List Rn) : sameR a b = true ↔ a = b := by
  induction a generalizing b with
  | nil => cases b <;> simp [sameR]
  | cons x a ih =>
    cases b with
    | nil => simp [sameR]
    | cons y b => simp only [sameR, Bool.and_eq_true, rnEq_iff, ih, List.cons.injEq]
theorem sameR_len {a b : List Rn} (h : ¬ a.length = b.length) : sameR a b = false := by
  cases hs : sameR a b with
  | false => rfl
  | true => rw [sameR_iff] at hs; rw [hs] at h; exact absurd rfl h
theorem drop_rn {l : List Rn} {i : Nat} {x : Rn} (h : l[i]? = some x) : l.drop i = x :: l.drop (i + 1) := by
  obtain ⟨hi, e⟩ := List.getElem?_eq_some_iff.1 h
  rw [List.drop_eq_getElem_cons hi, e]
end Tab
end Go.Proofs.YtgoeikihjffeoaaGreat
