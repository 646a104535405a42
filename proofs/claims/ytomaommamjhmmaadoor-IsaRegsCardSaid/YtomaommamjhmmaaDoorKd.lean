/- IsaTells: instructions are what the document says, for any bytes, any numbers: the walk. -/
import Derived.Test.YtomaommamjhmmaaDoorKc
namespace Go.Proofs.YtomaommamjhmmaaDoor
set_option maxRecDepth 100000
open Go.RowKit
set_option linter.unusedSimpArgs false
set_option linter.unusedVariables false

theorem w64I {z : Int} (h : -9223372036854775808 ≤ z ∧ z ≤ 9223372036854775807) : wrap64 z = z := by unfold wrap64; omega
theorem and_maskH (a : Int) (m : Nat) (c : Int) (hc : (m : Int) = c := by rfl) (hm : m < 9223372036854775808 := by decide) : ∃ M : Nat, Hid (bits .and .i64 a c = (M : Int)) ∧ M ≤ m := by
  obtain ⟨M, h1, h2⟩ := and_maskI a m hm
  rw [hc] at h1
  exact ⟨M, Lib.hid h1, h2⟩
theorem mul4I {N : Nat} (h : N ≤ 7) : ∃ Z : Nat, Hid (wrap64 (4 * (N : Int)) = (Z : Int)) ∧ Z ≤ 28 := ⟨4 * N, Lib.hid (by unfold wrap64; omega), by omega⟩
theorem nat64 {Z : Nat} (h : Z ≤ 1024) : -9223372036854775808 ≤ (Z : Int) ∧ (Z : Int) ≤ 9223372036854775807 := by omega
set_option maxHeartbeats 1000000 in
theorem tells15_walk (H : IsaW) (A : Option Addr) (n k : Nat) (l : List UInt8) (pc o a b c : Int) (w : World) (h : Rd w w.heap.size A n l) (hn : n ≤ 140737488355328) (hk : n ≤ k) (hp : -9223372036854775808 ≤ pc ∧ pc ≤ 9223372036854775807) (hnw : NamW w) :
    Calls Tryd.prog 4 #[.slice A n k, .int .i64 pc, .agg #[.int .i64 o, .int .i64 a, .int .i64 b, .int .i64 c]] w (Yes w) := by
  have CS := Lib.hid fun (q : Int) (hq : -9223372036854775808 ≤ q ∧ q ≤ 9223372036854775807) (o a b c : Int) V (hv : Below w.heap.size w V) => same15_any H A n k l q ⟨o, a, b, c⟩ V ((h.below hv).more hv.size) hn hk hq (hnw.on hv)
  have CK := Lib.hid fun V (hv : Below w.heap.size w V) => known15_any H V (hnw.on hv)
  dsimp only [iv] at CS
  obtain ⟨M, hM, bM⟩ := and_maskH pc 31 31
  obtain ⟨N, hN, bN⟩ := and_maskH pc 7 7
  obtain ⟨Z, hZ, bZ⟩ := mul4I bN
  obtain ⟨M0, m0, _⟩ := and_maskH o 31 31
  obtain ⟨M1, m1, _⟩ := and_maskH a 15 15
  obtain ⟨M2, m2, _⟩ := and_maskH b 15 15
  obtain ⟨M3, m3, _⟩ := and_maskH c 15 15
  have CF := Lib.hid fun V (hv : Below w.heap.size w V) => rfetch_any A n k l (M : Int) V ((h.below hv).more hv.size) hn hk (nat64 (Nat.le_trans bM (by decide)))
  generalize fetF l (M : Int) = F at CF
  generalize fetB l (M : Int) = bb at CF
  obtain ⟨fo, f1, f2, f3⟩ := F
  dsimp only [iv] at CF
  have C1 := Lib.hid (CS.out pc hp o a b c)
  have C2 := Lib.hid (CS.out (M : Int) (nat64 (Nat.le_trans bM (by decide))) fo f1 f2 f3)
  have C3 := Lib.hid (CS.out (Z : Int) (nat64 (Nat.le_trans bZ (by decide))) (M0 : Int) (M1 : Int) (M2 : Int) (M3 : Int))
  clear CS h hn hk hp hnw bM bN bZ
  have hM := hM.out
  have hN := hN.out
  have hZ := hZ.out
  have m0 := m0.out
  have m1 := m1.out
  have m2 := m2.out
  have m3 := m3.out
  have hb0 := bl1 w (.cells #[.int .i64 o, .int .i64 a, .int .i64 b, .int .i64 c] 26)
  have hf0 := fo_new w o a b c
  go_enter Tryd.func4, Tryd.ntmps4
  go_upto_region 1 with fail
  generalize w.alloc (.cells #[.int .i64 o, .int .i64 a, .int .i64 b, .int .i64 c] 26) = W0 at hb0 hf0 ⊢
  obtain ⟨g5, hg⟩ : ∃ g, g = w.heap.size := ⟨_, rfl⟩
  rw [← hg] at hf0 ⊢
  clear hg
  have HB0 := Lib.hid hb0
  have HF0 := Lib.hid hf0
  clear hb0 hf0
  go_upto_region 2 with (go_at_call 10; refine (CF.out W0 HB0.out).mono ?_; rintro e w1 ⟨rfl, hb1⟩)
  have hbx := bl1 w1 (.cells #[.int .i64 fo, .int .i64 f1, .int .i64 f2, .int .i64 f3] 26)
  have hbz := hb1.trans (hbx.mono hb1.size)
  have HF5 := Lib.hid (HF0.out.on hbz)
  have HB1 := Lib.hid (HB0.out.trans (hbz.mono HB0.out.size))
  have HF7 := Lib.hid (fo_new w1 fo f1 f2 f3)
  generalize w1.alloc (.cells #[.int .i64 fo, .int .i64 f1, .int .i64 f2, .int .i64 f3] 26) = W1 at HF5 HB1 HF7 ⊢
  generalize w1.heap.size = g7 at HF7 ⊢
  clear hb1 hbx hbz HF0 HB0 CF
  obtain ⟨x0, x1, x2, x3⟩ := HF5.out
  dsimp only at x0 x1 x2 x3
  go_wp2_with fail
  refine (C1.out W1 HB1.out).mono ?_
  rintro e w2 ⟨rfl, hb2⟩
  clear x0 x1 x2 x3
  obtain ⟨y0, y1, y2, y3⟩ := HF7.out.on hb2
  dsimp only at y0 y1 y2 y3
  have HF6 := Lib.hid (HF5.out.on hb2)
  have HB2 := Lib.hid (HB1.out.trans (hb2.mono HB1.out.size))
  clear hb2 HF7 HF5
  go_wp2_with fail
  refine (C2.out w2 HB2.out).mono ?_
  rintro e w3 ⟨rfl, hb3⟩
  clear y0 y1 y2 y3
  obtain ⟨x0, x1, x2, x3⟩ := HF6.out.on hb3
  dsimp only at x0 x1 x2 x3
  have HB3 := Lib.hid (HB2.out.trans (hb3.mono HB2.out.size))
  clear hb3 HF6
  go_wp2_with fail
  refine (C3.out w3 HB3.out).mono ?_
  rintro e w4 ⟨rfl, hb4⟩
  have HB4 := Lib.hid (HB3.out.trans (hb4.mono HB3.out.size))
  clear x0 x1 x2 x3 hb4
  go_wp2_with fail
  refine (CK.out w4 HB4.out).mono ?_
  rintro e w5 ⟨rfl, hb5⟩
  go_wp2_with fail
  go_ret
  exact ⟨rfl, HB4.out.trans (hb5.mono HB4.out.size)⟩
end Go.Proofs.YtomaommamjhmmaaDoor
