/- A tape out of a number. -/
import Derived.Test.YtgdkbeleapbffaaKids
import Derived.LoopTactic
namespace Go.Proofs.Ytgdkbeleapbffaa
open Go.RowKit Tab
set_option linter.unusedSimpArgs false
set_option linter.unusedVariables false

/-- It answers a row of numbers, new, of no more than 400. -/
def TapeL (w : World) (e : Ending) (w' : World) : Prop := ∃ (A : Option Addr) (n c : Nat) (f : Nat → Int), e = .returned (.slice A n c) ∧ RdC w' w'.heap.size A n (fun j => .int .i64 (f j)) ∧ n ≤ 400 ∧ Below w.heap.size w w'
theorem TapeL.mk {w w' : World} {A : Option Addr} {n c B : Nat} {L : List Int} (h : OwnV 3 1 w' B A n c (is L)) (hn : n ≤ 400) (hb : Below w.heap.size w w') : TapeL w (.returned (.slice A n c)) w' := by
  refine ⟨A, n, c, fun j => L.getD j 0, rfl, fun h0 => ?_, hn, hb⟩
  have hl := h.len
  rw [is_length] at hl
  obtain ⟨ad, e, hlt, hc⟩ := h.rd (by rw [is_length]; omega)
  refine ⟨ad, e, hlt, fun j hj => hc j _ ?_⟩
  have hj' : j < L.length := by omega
  simp [is, hj']
set_option maxRecDepth 100000 in
set_option maxHeartbeats 4000000 in
theorem tape_any (k : Nat) (w : World) (hk : k ≤ 100) : Calls Try.prog 7 #[.int .i64 (k : Int)] w (TapeL w) := by
  go_enter Try.func7, Try.ntmps7
  go_wp2_with fail
  obtain ⟨m, hm⟩ : ∃ m : Nat, (400 : Int) = (m : Int) := ⟨400, rfl⟩
  have hm1 : m ≤ 400 := by omega
  rw [hm]
  clear hm
  go_loopw [3, 4] (fun q s wr => ∃ (i c : Nat) (A : Option Addr) (L : List Int), i ≤ m ∧ s = .int .i64 i ∧ q = .slice A i c ∧ OwnV 3 1 wr w.heap.size A i c (is L) ∧ Below w.heap.size w wr) (fun _ s _ => m - (intOf s).toNat)
  case atStart => exact ⟨0, 0, none, [], by omega, rfl, rfl, OwnV.nil _ _ _ _, Below.refl _ _⟩
  case round =>
    obtain ⟨i, c, A, L, hi, rfl, rfl, hw, hb⟩ := hrel
    by_cases hlt : i < m
    · have hi4 : i ≤ 400 := by omega
      have h1 : i * i ≤ 400 * 400 := Nat.mul_le_mul hi4 hi4
      have h2 : i * k ≤ 400 * 100 := Nat.mul_le_mul hi4 hk
      have p1 : 0 ≤ (i : Int) * (i : Int) := by rw [← Int.natCast_mul]; omega
      have p2 : (i : Int) * (i : Int) ≤ 160000 := by rw [← Int.natCast_mul]; omega
      have p3 : 0 ≤ (i : Int) * (k : Int) := by rw [← Int.natCast_mul]; omega
      have p4 : (i : Int) * (k : Int) ≤ 40000 := by rw [← Int.natCast_mul]; omega
      clear h1 h2
      generalize hP : (i : Int) * (i : Int) = P at p1 p2
      generalize hQ : (i : Int) * (k : Int) = Q at p3 p4
      have hbs := hb.alloc hb.size (.cells #[.int .i64 ((P * 7 + (k : Int) * 29 + Q) % 211)] 3)
      have hw' := OwnV.below hw rfl (bl1 wr (.cells #[.int .i64 ((P * 7 + (k : Int) * 29 + Q) % 211)] 3))
      have hrd := rdV_new wr #[.int .i64 ((P * 7 + (k : Int) * 29 + Q) % 211)] 3 (is [(P * 7 + (k : Int) * 29 + Q) % 211]) rfl
      go_wp2_with (at_builtin; go_loud (refine wpList_appV elI rfl (.tmp 9) (.tmp 22) rfl rfl w.heap.size A i c _ rfl hw' _ 1 1 _ _ rfl hrd rfl (is_one _) (by omega) (by unfold maxLen; omega) hbs.size (i + 1) rfl (is (L ++ [(P * 7 + (k : Int) * 29 + Q) % 211])) (by rw [is_append]) ?_; intro A2 c2 w2 hw2 hb2 _))
      go_roundw
      case rel => exact ⟨i + 1, c2, A2, _, by omega, by go_num, rfl, hw2, hbs.trans hb2⟩
      case measure => simp [intOf]; omega
    · have hge : m ≤ i := by omega
      go_wp2_with fail
      go_ret
      exact TapeL.mk hw (by omega) hb
end Go.Proofs.Ytgdkbeleapbffaa
