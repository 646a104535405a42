/- What package code writes: numbers, texts and flags, in new memory. -/
import Derived.Test.YtebcfiifaclniaaGreatMem
import Derived.Test.YtebcfiifaclniaaGreatNum
import Derived.Lib.AppendStr
import Derived.Deep.QuietTactic
import Derived.BigQuiet
import Derived.WalkSmall
namespace Go.Proofs.YtebcfiifaclniaaGreat
set_option maxRecDepth 100000
open Go.RowKit
set_option linter.unusedSimpArgs false
set_option linter.unusedVariables false

theorem ret_i64 {a b : Int} (h : a = b) : Ending.returned (.int .i64 a) = .returned (.int .i64 b) := by rw [h]
theorem pow_byte (k : Nat) : (2 : Nat) ^ (8 * k) = 256 ^ k := by rw [Nat.pow_mul]
theorem shr_yes (u k : Nat) (h : k < Num.wid u) : decide ((0 : Int) < (u : Int) / 2 ^ (8 * k)) = true := by
  have := (Num.lt_wid u k).1 h
  rw [← pow_byte] at this
  exact decide_eq_true (by exact_mod_cast this)
theorem shr_no (u k : Nat) (h : ¬ k < Num.wid u) : decide ((0 : Int) < (u : Int) / 2 ^ (8 * k)) = false := by
  refine decide_eq_false fun h0 => h ((Num.lt_wid u k).2 ?_)
  rw [← pow_byte]
  exact_mod_cast h0
theorem or_byte (v : Nat) (x : UInt8) (h : v < 72057594037927936) : bits .or .u64 ((v : Int) * (256 : Int) % (18446744073709551616 : Int)) ((x.toNat : Int) % (18446744073709551616 : Int)) = ((v * 256 + x.toNat : Nat) : Int) := by
  have hx : x.toNat < 256 := x.toBitVec.isLt
  have e1 : (v : Int) * (256 : Int) % (18446744073709551616 : Int) = ((v * 256 : Nat) : Int) := by omega
  have e2 : (x.toNat : Int) % (18446744073709551616 : Int) = ((x.toNat : Nat) : Int) := by omega
  rw [e1, e2, u64_or_nat _ _ (by omega) (by omega)]
  have : v * 256 ||| x.toNat = v * 256 + x.toNat := by
    have := Nat.shiftLeft_add_eq_or_of_lt (b := x.toNat) (i := 8) hx v
    rw [Nat.shiftLeft_eq] at this
    exact this.symm
  rw [this]
theorem u64_eq {a b : Int} (h : a = b) : Value.int .u64 a = .int .u64 b := by rw [h]
theorem ret_u64 {a b : Int} (h : a = b) : Ending.returned (.int .u64 a) = .returned (.int .u64 b) := by rw [h]
theorem val_small (l : List UInt8) (k : Nat) (h : k < 8) : Num.val (l.take k) < 72057594037927936 := by
  have h1 := Num.val_lt (l.take k)
  have h2 : (256 : Nat) ^ (l.take k).length ≤ 256 ^ 7 := Nat.pow_le_pow_right (by omega) (by rw [List.length_take]; omega)
  have h3 : (256 : Nat) ^ 7 = 72057594037927936 := by decide
  omega

/-- A row of the call's own, grown: n bytes, l. -/
def Grown (w : World) (B n : Nat) (l : List UInt8) (e : Ending) (w' : World) : Prop :=
  ∃ A c, e = .returned (.slice A n c) ∧ Own w' B A n c l ∧ Below B w w'

theorem own_lit1 (w : World) (B : Nat) (v : Int) (b : UInt8) (hv : v = (b.toNat : Int)) (hB : B ≤ w.heap.size) :
    Own (w.alloc (.cells #[.int .u8 v] 5)) B (some ⟨w.heap.size, 0, none⟩) 1 1 [b] := own_lit w B [b] _ (by subst hv; rfl) hB (by simp)
theorem rd_lit1 (w : World) (v : Int) (b : UInt8) (hv : v = (b.toNat : Int)) : Rd (w.alloc (.cells #[.int .u8 v] 5)) (w.heap.size + 1) (some ⟨w.heap.size, 0, none⟩) 1 [b] := by
  have := (own_lit1 w w.heap.size v b hv (Nat.le_refl _)).rd
  simpa using this
theorem or_128 (k : Nat) (h : k ≤ 8) : (128 : Int) + k = ((UInt8.ofNat (128 + k)).toNat : Int) := by
  have : k = 0 ∨ k = 1 ∨ k = 2 ∨ k = 3 ∨ k = 4 ∨ k = 5 ∨ k = 6 ∨ k = 7 ∨ k = 8 := by omega
  rcases this with rfl | rfl | rfl | rfl | rfl | rfl | rfl | rfl | rfl <;> rfl
theorem or_0 (k : Nat) (h : k ≤ 8) : bits .or .u8 0 (k : Int) = ((UInt8.ofNat (0 + k)).toNat : Int) := by
  have : k = 0 ∨ k = 1 ∨ k = 2 ∨ k = 3 ∨ k = 4 ∨ k = 5 ∨ k = 6 ∨ k = 7 ∨ k = 8 := by omega
  rcases this with rfl | rfl | rfl | rfl | rfl | rfl | rfl | rfl | rfl <;> rfl
theorem be_byte (u i : Nat) (h : i + 1 ≤ Num.wid u) : (u : Int) / 2 ^ (8 * i) % 256 = ((UInt8.ofNat (u / 256 ^ i)).toNat : Int) := by
  rw [← pow_byte]; simp
theorem be_step (l : List UInt8) (x : UInt8) (u i : Nat) (h : i + 1 ≤ Num.wid u) : (l ++ x :: (Num.be u).take (Num.wid u - (i + 1))) ++ [UInt8.ofNat (u / 256 ^ i)] = l ++ x :: (Num.be u).take (Num.wid u - i) := by
  have e := Num.be_get u (Num.wid u - (i + 1)) (by omega)
  have e1 : Num.wid u - 1 - (Num.wid u - (i + 1)) = i := by omega
  have e2 : Num.wid u - i = Num.wid u - (i + 1) + 1 := by omega
  rw [e1] at e
  rw [e2, List.take_add_one, e]
  simp

end Go.Proofs.YtebcfiifaclniaaGreat
