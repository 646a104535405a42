/- Law 8's tapes of numbers; bits of numbers. -/
import Derived.Test.YtcdgofdnafbacaaLow2
import Derived.Test.YtcdgofdnafbacaaLow1
import Derived.Test.YtcdgofdnafbacaaWdep
namespace Go.Proofs.Ytcdgofdnafbacaa
open Go.RowKit Tab
set_option linter.unusedSimpArgs false
set_option linter.unusedVariables false

/-- It answers a row of numbers, new, of no more than 400. -/
def TapeE (w : World) (e : Ending) (w' : World) : Prop := ∃ (A : Option Addr) (n c : Nat) (f : Nat → Int), e = .returned (.slice A n c) ∧ RdC w' w'.heap.size A n (fun j => .int .i64 (f j)) ∧ n ≤ 400 ∧ Below w.heap.size w w'
theorem TapeE.mk {w w' : World} {A : Option Addr} {n c B : Nat} {L : List Int} (h : OwnV 3 1 w' B A n c (is L)) (hn : n ≤ 400) (hb : Below w.heap.size w w') : TapeE w (.returned (.slice A n c)) w' := by
  refine ⟨A, n, c, fun j => L.getD j 0, rfl, fun h0 => ?_, hn, hb⟩
  have hl := h.len
  rw [is_length] at hl
  obtain ⟨ad, e, hlt, hc⟩ := h.rd (by rw [is_length]; omega)
  refine ⟨ad, e, hlt, fun j hj => hc j _ ?_⟩
  have hj' : j < L.length := by omega
  simp [is, hj']
set_option maxRecDepth 100000 in
set_option maxHeartbeats 4000000 in
theorem tape8_any (k : Nat) (w : World) (hk : k ≤ 100) : Calls Try.prog 9 #[.int .i64 (k : Int)] w (TapeE w) := by
  go_enter Try.func9, Try.ntmps9
  go_wp2_with fail
  obtain ⟨m, hm⟩ : ∃ m : Nat, (400 : Int) = (m : Int) := ⟨400, rfl⟩
  have hm1 : m ≤ 400 := by omega
  rw [hm]
  clear hm
  go_loopw [3, 4] (fun q s wr => ∃ (i c : Nat) (A : Option Addr) (L : List Int), i ≤ m ∧ s = .int .i64 i ∧ q = .slice A i c ∧ OwnV 3 1 wr w.heap.size A i c (is L) ∧ Below w.heap.size w wr) (fun _ s _ => m - (intOf s).toNat)
  case atStart => exact ⟨0, 0, none, [], by omega, rfl, rfl, OwnV.nil _ _ _ _, Below.refl _ _⟩
  case round =>
    obtain ⟨i, c, A, L, hi, rfl, rfl, hw, hb⟩ := hrel
    by_cases hlt : i < m
    · have hi4 : i ≤ 400 := by omega
      have h1 : i * i ≤ 400 * 400 := Nat.mul_le_mul hi4 hi4
      have h2 : i * k ≤ 400 * 100 := Nat.mul_le_mul hi4 hk
      have p1 : 0 ≤ (i : Int) * (i : Int) := by rw [← Int.natCast_mul]; omega
      have p2 : (i : Int) * (i : Int) ≤ 160000 := by rw [← Int.natCast_mul]; omega
      have p3 : 0 ≤ (i : Int) * (k : Int) := by rw [← Int.natCast_mul]; omega
      have p4 : (i : Int) * (k : Int) ≤ 40000 := by rw [← Int.natCast_mul]; omega
      clear h1 h2
      generalize hP : (i : Int) * (i : Int) = P at p1 p2
      generalize hQ : (i : Int) * (k : Int) = Q at p3 p4
      have hbs := hb.alloc hb.size (.cells #[.int .i64 ((P * 7 + (k : Int) * 43 + Q) % 211)] 3)
      have hw' := OwnV.below hw rfl (bl1 wr (.cells #[.int .i64 ((P * 7 + (k : Int) * 43 + Q) % 211)] 3))
      have hrd := rdV_new wr #[.int .i64 ((P * 7 + (k : Int) * 43 + Q) % 211)] 3 (is [(P * 7 + (k : Int) * 43 + Q) % 211]) rfl
      go_wp2_with (at_builtin; go_loud (refine wpList_appV elI rfl (.tmp 9) (.tmp 22) rfl rfl w.heap.size A i c _ rfl hw' _ 1 1 _ _ rfl hrd rfl (is_one _) (by omega) (by unfold maxLen; omega) hbs.size (i + 1) rfl (is (L ++ [(P * 7 + (k : Int) * 43 + Q) % 211])) (by rw [is_append]) ?_; intro A2 c2 w2 hw2 hb2 _))
      go_roundw
      case rel => exact ⟨i + 1, c2, A2, _, by omega, by go_num, rfl, hw2, hbs.trans hb2⟩
      case measure => simp [intOf]; omega
    · have hge : m ≤ i := by omega
      go_wp2_with fail
      go_ret
      exact TapeE.mk hw (by omega) hb
theorem bit_and (x : Int) : bits BinOp.and IntKind.i64 x 1 = x % 2 := by
  have e : (BitVec.ofInt 64 x &&& BitVec.ofInt 64 1).toNat = (x % 2).toNat := by
    rw [BitVec.toNat_and, BitVec.toNat_ofInt, BitVec.toNat_ofInt]
    have h1 : ((1 : Int) % ((2 ^ 64 : Nat) : Int)).toNat = 1 := by decide
    rw [h1, Nat.and_one_is_mod]
    omega
  have h : bits BinOp.and IntKind.i64 x 1 = IntKind.i64.wrap ((BitVec.ofInt 64 x &&& BitVec.ofInt 64 1).toNat : Int) := rfl
  rw [h, e, IntWalk.i64_in _ ⟨by omega, by omega⟩]
  omega
theorem bitB_eq (b : Int) (q : Nat) : bitB b q = (b / 2 ^ (q % 20) % 2 == 1) := by unfold bitB; rw [bit_and]
theorem bit_lsb (x : Int) (q : Nat) (hq : q < 20) : (x / 2 ^ q % 2 == 1) = (BitVec.ofInt 64 x).getLsbD q := by
  have hn : (BitVec.ofInt 64 x).getLsbD q = (BitVec.ofInt 64 x).toNat.testBit q := rfl
  rw [hn, BitVec.toNat_ofInt, Nat.testBit_eq_decide_div_mod_eq, Bool.eq_iff_iff]
  simp only [beq_iff_eq, decide_eq_true_eq]
  have hq' : q = 0 ∨ q = 1 ∨ q = 2 ∨ q = 3 ∨ q = 4 ∨ q = 5 ∨ q = 6 ∨ q = 7 ∨ q = 8 ∨ q = 9 ∨ q = 10 ∨ q = 11 ∨ q = 12 ∨ q = 13 ∨ q = 14 ∨ q = 15 ∨ q = 16 ∨ q = 17 ∨ q = 18 ∨ q = 19 := by omega
  rcases hq' with h | h | h | h | h | h | h | h | h | h | h | h | h | h | h | h | h | h | h | h <;> subst h <;> omega
theorem bit_wrap (n : Nat) (hn : n < 18446744073709551616) (q : Nat) (hq : q < 20) : (IntKind.i64.wrap (n : Int) / 2 ^ q % 2 == 1) = n.testBit q := by
  have hw : BitVec.ofInt 64 (IntKind.i64.wrap (n : Int)) = BitVec.ofInt 64 (n : Int) := by
    apply BitVec.eq_of_toNat_eq
    rw [BitVec.toNat_ofInt, BitVec.toNat_ofInt]
    have : IntKind.i64.wrap (n : Int) % 18446744073709551616 = (n : Int) % 18446744073709551616 := by
      have hb : IntKind.i64.bits = 64 := rfl
      have hs : IntKind.i64.signed = true := rfl
      unfold IntKind.wrap
      dsimp only
      rw [hb, hs]
      split <;> omega
    omega
  rw [bit_lsb _ _ hq, hw]
  have hk : (BitVec.ofInt 64 (n : Int)).getLsbD q = (BitVec.ofInt 64 (n : Int)).toNat.testBit q := rfl
  rw [hk, BitVec.toNat_ofInt]
  congr 1
  omega
/-- A bit of one is a bit of both. -/
theorem bitB_or (b c : Int) (q : Nat) (hq : q < 20) : bitB (bits BinOp.or IntKind.i64 b c) q = (bitB b q || bitB c q) := by
  have hm : q % 20 = q := Nat.mod_eq_of_lt hq
  have h : bits BinOp.or IntKind.i64 b c = IntKind.i64.wrap ((BitVec.ofInt 64 b ||| BitVec.ofInt 64 c).toNat : Int) := rfl
  rw [bitB_eq, bitB_eq, bitB_eq, hm, h, bit_wrap _ (BitVec.isLt _) _ hq, bit_lsb _ _ hq, bit_lsb _ _ hq, BitVec.toNat_or, Nat.testBit_or]
  rfl
theorem depF_or (b c : Int) (x y : Nat) (h : depF b x y = true) : depF (bits BinOp.or IntKind.i64 b c) x y = true :=
  depF_of (fun q hq e => by rw [bitB_or _ _ _ hq, e]; rfl) x y h
end Go.Proofs.Ytcdgofdnafbacaa
