/- IsaRegs: with registers that are none no op that has them is right; jumps and ends have none: the walk. -/
import Derived.Test.YtomaommamjhmmaaDoorJd
import Derived.IntWalk
namespace Go.Proofs.YtomaommamjhmmaaDoor
open Go.RowKit
set_option linter.unusedSimpArgs false
set_option linter.unusedVariables false

theorem tmod18 (a : Int) : -18 < a.tmod 18 ∧ a.tmod 18 < 18 := by
  by_cases h : 0 ≤ a
  · rw [Int.tmod_eq_emod_of_nonneg h]; omega
  · have e : a.tmod 18 = -((-a).tmod 18) := by rw [Int.neg_tmod]; omega
    rw [e, Int.tmod_eq_emod_of_nonneg (by omega : 0 ≤ -a)]; omega
def freeO (o : Int) : Bool := o == 0 || o == 8 || o == 17 || o == 16
theorem right_lowI {o a b c : Int} (h : 0 ≤ o ∧ o ≤ 17) (ha : 0 ≤ a ∧ a ≤ 7) (hb : 0 ≤ b ∧ b ≤ 7) (hc : 0 ≤ c ∧ c ≤ 7) : rightF ⟨o, a, b, c⟩ = true := by
  unfold rightF
  dsimp only
  rw [byF_yes ha.1 (by omega), byF_yes hb.1 (by omega), byF_yes hc.1 (by omega), decide_eq_true h.1, decide_eq_true h.2, decide_eq_true (by show a < 8; omega), decide_eq_true (by show b < 8; omega), decide_eq_true (by show c < 8; omega)]
  simp
theorem right_highI {o a b c : Int} (h : 0 ≤ o ∧ o ≤ 17) (ha : 8 ≤ a ∧ a ≤ 135) (hb : 8 ≤ b ∧ b ≤ 135) (hc : 8 ≤ c ∧ c ≤ 135) : rightF ⟨o, a, b, c⟩ = freeO o := by
  unfold rightF
  dsimp only
  rw [byF_yes (z := a) (by omega) (by omega), byF_yes (z := b) (by omega) (by omega), byF_yes (z := c) (by omega) (by omega), decide_eq_true h.1, decide_eq_true h.2, decide_eq_false (by show ¬ a < 8; omega), decide_eq_false (by show ¬ b < 8; omega), decide_eq_false (by show ¬ c < 8; omega)]
  rcases (by omega : o = 0 ∨ o = 1 ∨ o = 2 ∨ o = 3 ∨ o = 4 ∨ o = 5 ∨ o = 6 ∨ o = 7 ∨ o = 8 ∨ o = 9 ∨ o = 10 ∨ o = 11 ∨ o = 12 ∨ o = 13 ∨ o = 14 ∨ o = 15 ∨ o = 16 ∨ o = 17) with rfl | rfl | rfl | rfl | rfl | rfl | rfl | rfl | rfl | rfl | rfl | rfl | rfl | rfl | rfl | rfl | rfl | rfl <;> rfl
theorem right_overI {o : Int} (h : 17 < o) (a b c : Int) : rightF ⟨o, a, b, c⟩ = false := by
  unfold rightF
  dsimp only
  rw [decide_eq_false (p := o ≤ 17) (by omega)]
  simp
theorem right_256 (o b c : Int) : rightF ⟨o, 256, b, c⟩ = false := by
  unfold rightF
  dsimp only
  rw [byF_no2 (z := 256) (by omega)]
  simp
theorem nameO_some {o : Int} (h : 0 ≤ o ∧ o ≤ 17) : nameO o ≠ ⟨#[]⟩ := by
  rcases (by omega : o = 0 ∨ o = 1 ∨ o = 2 ∨ o = 3 ∨ o = 4 ∨ o = 5 ∨ o = 6 ∨ o = 7 ∨ o = 8 ∨ o = 9 ∨ o = 10 ∨ o = 11 ∨ o = 12 ∨ o = 13 ∨ o = 14 ∨ o = 15 ∨ o = 16 ∨ o = 17) with rfl | rfl | rfl | rfl | rfl | rfl | rfl | rfl | rfl | rfl | rfl | rfl | rfl | rfl | rfl | rfl | rfl | rfl <;> decide
theorem and_maskI (a : Int) (m : Nat) (hm : m < 9223372036854775808) : ∃ M : Nat, bits .and .i64 a (m : Int) = (M : Int) ∧ M ≤ m := by
  refine ⟨(BitVec.ofInt 64 a &&& BitVec.ofInt 64 (m : Int)).toNat, ?_, ?_⟩
  · have h : (BitVec.ofInt 64 a &&& BitVec.ofInt 64 (m : Int)).toNat ≤ m := by
      rw [BitVec.toNat_and]
      refine Nat.le_trans Nat.and_le_right ?_
      rw [BitVec.ofInt_natCast, BitVec.toNat_ofNat]
      exact Nat.mod_le _ _
    show IntKind.i64.wrap ((BitVec.ofInt 64 a &&& BitVec.ofInt 64 (m : Int)).toNat : Int) = _
    rw [IntKind.wrap_i64]
    omega
  · rw [BitVec.toNat_and]
    refine Nat.le_trans Nat.and_le_right ?_
    rw [BitVec.ofInt_natCast, BitVec.toNat_ofNat]
    exact Nat.mod_le _ _
end Go.Proofs.YtomaommamjhmmaaDoor
