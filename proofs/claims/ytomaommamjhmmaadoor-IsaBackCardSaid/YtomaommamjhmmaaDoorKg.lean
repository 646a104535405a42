/- What is written is fetched: mathematics. -/
import Derived.Test.YtomaommamjhmmaaDoorJe
namespace Go.Proofs.YtomaommamjhmmaaDoor
open Go.RowKit
set_option linter.unusedSimpArgs false
set_option linter.unusedVariables false

theorem flat4_get (l : List InsV) (i k : Nat) (x : InsV) (hx : l[i]? = some x) (hk : k < 4) : (l.flatMap by4)[i * 4 + k]? = (by4 x)[k]? := by
  induction l generalizing i with
  | nil => simp at hx
  | cons y l ih =>
    rw [List.flatMap_cons]
    cases i with
    | zero =>
      simp at hx
      subst hx
      rw [Nat.zero_mul, Nat.zero_add, List.getElem?_append_left (by show k < 4; exact hk)]
    | succ i =>
      have h4 : (by4 y).length = 4 := rfl
      rw [List.getElem?_append_right (by rw [h4, Nat.succ_mul]; omega), h4]
      have := ih i (by simpa using hx)
      rw [← this]
      congr 1
      rw [Nat.succ_mul]
      omega
theorem flat4_len (l : List InsV) : (l.flatMap by4).length = 4 * l.length := by
  induction l with
  | nil => rfl
  | cons y l ih =>
    rw [List.flatMap_cons, List.length_append, ih]
    show 4 + 4 * l.length = 4 * (l.length + 1)
    omega
/-- All of its numbers are bytes. -/
def BytI (x : InsV) : Prop := (0 ≤ x.o ∧ x.o ≤ 255) ∧ (0 ≤ x.a ∧ x.a ≤ 255) ∧ (0 ≤ x.b ∧ x.b ≤ 255) ∧ (0 ≤ x.c ∧ x.c ≤ 255)
theorem low8_in {z : Int} (h : 0 ≤ z ∧ z ≤ 255) : ((low8 z).toNat : Int) = z := by
  unfold low8
  simp
  omega
theorem byteZ_at {l : List UInt8} {n : Nat} {b : UInt8} (h : l[n]? = some b) : byteZ l n = (b.toNat : Int) := by unfold byteZ; rw [h]; rfl
theorem fet_yes {L : List InsV} {j : Nat} {x : InsV} (hx : L[j]? = some x) (hb : BytI x) : fetB (L.flatMap by4) ((4 * j : Nat) : Int) = true ∧ fetF (L.flatMap by4) ((4 * j : Nat) : Int) = x := by
  have hj : j < L.length := (List.getElem?_eq_some_iff.1 hx).1
  have hB : fetB (L.flatMap by4) ((4 * j : Nat) : Int) = true := by
    unfold fetB
    rw [flat4_len, decide_eq_true (by omega), decide_eq_true (by omega), decide_eq_true (by omega)]
    rfl
  refine ⟨hB, ?_⟩
  unfold fetF
  rw [if_pos hB, Int.toNat_natCast]
  have e0 : byteZ (L.flatMap by4) (4 * j) = x.o := by
    have h := flat4_get L j 0 x hx (by omega)
    rw [show j * 4 + 0 = 4 * j by omega] at h
    rw [byteZ_at (h.trans rfl)]
    exact low8_in hb.1
  have e1 : byteZ (L.flatMap by4) (4 * j + 1) = x.a := by
    have h := flat4_get L j 1 x hx (by omega)
    rw [show j * 4 + 1 = 4 * j + 1 by omega] at h
    rw [byteZ_at (h.trans rfl)]
    exact low8_in hb.2.1
  have e2 : byteZ (L.flatMap by4) (4 * j + 2) = x.b := by
    have h := flat4_get L j 2 x hx (by omega)
    rw [show j * 4 + 2 = 4 * j + 2 by omega] at h
    rw [byteZ_at (h.trans rfl)]
    exact low8_in hb.2.2.1
  have e3 : byteZ (L.flatMap by4) (4 * j + 3) = x.c := by
    have h := flat4_get L j 3 x hx (by omega)
    rw [show j * 4 + 3 = 4 * j + 3 by omega] at h
    rw [byteZ_at (h.trans rfl)]
    exact low8_in hb.2.2.2
  rw [e0, e1, e2, e3]
theorem fet_no {L : List InsV} {k : Nat} (h : k % 4 ≠ 0 ∨ L.length ≤ k / 4) : fetB (L.flatMap by4) (k : Int) = false ∧ fetF (L.flatMap by4) (k : Int) = ⟨0, 0, 0, 0⟩ := by
  have hB : fetB (L.flatMap by4) (k : Int) = false := by
    unfold fetB
    rw [flat4_len]
    rcases h with h | h
    · rw [decide_eq_false (p := (k : Int) % 4 = 0) (by omega), Bool.false_and, Bool.and_false]
    · by_cases h4 : k % 4 = 0
      · rw [decide_eq_false (p := (k : Int) + 4 ≤ ((4 * L.length : Nat) : Int)) (by omega), Bool.and_false, Bool.and_false]
      · rw [decide_eq_false (p := (k : Int) % 4 = 0) (by omega), Bool.false_and, Bool.and_false]
  exact ⟨hB, by unfold fetF; rw [hB]; rfl⟩
theorem imm_div (o a : Int) (K : Nat) (h : K ≤ 65535) : immF ⟨o, a, (K : Int) / 256, ((K % 256 : Nat) : Int)⟩ = (K : Int) := by
  unfold immF
  dsimp only
  omega
end Go.Proofs.YtomaommamjhmmaaDoor
