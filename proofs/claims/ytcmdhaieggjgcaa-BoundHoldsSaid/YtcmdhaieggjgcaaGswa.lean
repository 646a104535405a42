/- Who sways whom at once, as a matrix, by the program. -/
import Derived.Test.YtcmdhaieggjgcaaLow7
namespace Go.Proofs.Ytcmdhaieggjgcaa
open Go.RowKit Tab
set_option linter.unusedSimpArgs false
set_option linter.unusedVariables false

theorem RdV.other {w : World} {B : Nat} {A : Option Addr} {l : List Value} (h : RdV w B A l) (p : Addr) (v : Value) (hp : ∀ b, obk A = some b → b ≠ p.block) : RdV (w.setCell p v) B A l := fun hl => by
  obtain ⟨ad, e, hb, hc⟩ := h hl
  refine ⟨ad, e, hb, fun j u hj => ?_⟩
  rw [World.cell?_of_block (Below.heap_setCell w p v (ad.add j).block (by rw [add_block]; exact hp _ (by rw [e]; rfl)))]
  exact hc j u hj
theorem RdI.other {w : World} {B n : Nat} {A : Option Addr} {l : List Int} (h : RdI w B A n l) (p : Addr) (v : Value) (hp : ∀ b, obk A = some b → b ≠ p.block) : RdI (w.setCell p v) B A n l := ⟨h.len, h.rd.other p v hp⟩
/-- The rows of those of R ahead of i are full; row a is up to j. -/
def mR (m : Nat → Nat → Bool) (R : List Nat) (i a j x y : Nat) : Bool := m x y || decide (x ∈ R.take i) || (decide (x = a) && decide (y < j))
theorem mR_put (m : Nat → Nat → Bool) (R : List Nat) (i a j x y : Nat) : put2 (mR m R i a j) a j true x y = mR m R i a (j + 1) x y := by
  unfold put2 mR
  by_cases h1 : x = a ∧ y = j
  · rw [if_pos h1, h1.1, h1.2]; simp
  · rw [if_neg h1]
    congr 1
    by_cases h2 : x = a
    · have h3 : y ≠ j := fun e => h1 ⟨h2, e⟩
      have h4 : (y < j) = (y < j + 1) := by simp; omega
      simp [h2, h4]
    · simp [h2]
theorem mR_row {m : Nat → Nat → Bool} {R : List Nat} {i a n x y : Nat} (h : R[i]? = some a) (hy : y < n) : mR m R i a n x y = mR m R (i + 1) 0 0 x y := by
  unfold mR
  rw [take_one h]
  simp only [List.mem_append, List.mem_singleton, hy, decide_true, Bool.and_true, Nat.not_lt_zero, decide_false, Bool.and_false, Bool.or_false]
  rw [Bool.eq_iff_iff]
  simp only [Bool.or_eq_true, decide_eq_true_eq, or_assoc]
theorem swayF_mR {P : List PtV} {C : List ChV} {n i a b : Nat} {L : List (Nat × Nat)} {R : List Nat} (hn : P.length = n) (hL : L = wayL n (C.map chOf)) (hR : R = rulL (P.map ptOf)) (hi : R.length ≤ i) : mR (mS L) R i 0 0 a b = swayF (P.map ptOf) (C.map chOf) a b := by
  rw [Bool.eq_iff_iff, swayF_iff, List.length_map, hn]
  unfold mR mS
  rw [List.take_of_length_le hi, hL, hR]
  simp only [Bool.or_eq_true, Bool.and_eq_true, decide_eq_true_eq, Nat.not_lt_zero, and_false, or_false]
  unfold rulL
  rw [mem_plcs, Bool.or_eq_true]
  have hs : schedOf (P.map ptOf) a = true → a < (P.map ptOf).length := fun h => by
    unfold schedOf at h
    rcases Nat.lt_or_ge a (P.map ptOf).length with h1 | h1
    · exact h1
    · rw [List.getElem?_eq_none h1] at h; cases h
  have ht : stopOf (P.map ptOf) a = true → a < (P.map ptOf).length := fun h => by
    unfold stopOf at h
    rcases Nat.lt_or_ge a (P.map ptOf).length with h1 | h1
    · exact h1
    · rw [List.getElem?_eq_none h1] at h; cases h
  constructor
  · rintro ((h | h) | ⟨_, h | h⟩)
    · exact .inl h
    · exact .inr (.inr (.inr h))
    · exact .inr (.inl h)
    · exact .inr (.inr (.inl h))
  · rintro (h | h | h | h)
    · exact .inl (.inl h)
    · exact .inr ⟨hs h, .inl h⟩
    · exact .inr ⟨ht h, .inr h⟩
    · exact .inl (.inr h)
end Go.Proofs.Ytcmdhaieggjgcaa
