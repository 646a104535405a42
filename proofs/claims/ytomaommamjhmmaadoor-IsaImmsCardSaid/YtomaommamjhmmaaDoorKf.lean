/- IsaImms: a number below 65536 goes into an instruction and comes out of it: the walk. -/
import Derived.Test.YtomaommamjhmmaaDoorKe
import Derived.Test.YtomaommamjhmmaaDoorKg
namespace Go.Proofs.YtomaommamjhmmaaDoor
set_option maxRecDepth 100000
open Go.RowKit
set_option linter.unusedSimpArgs false
set_option linter.unusedVariables false

theorem and_mask32 (a : Int) (m : Nat) (c : Int) (hc : (m : Int) = c := by rfl) (hm : m < 4294967296 := by decide) : ∃ M : Nat, Hid (bits .and .u32 a c = (M : Int)) ∧ M ≤ m := by
  refine ⟨(BitVec.ofInt 32 a &&& BitVec.ofInt 32 (m : Int)).toNat, Lib.hid ?_, ?_⟩
  · rw [← hc]
    have h : (BitVec.ofInt 32 a &&& BitVec.ofInt 32 (m : Int)).toNat ≤ m := by
      rw [BitVec.toNat_and]
      refine Nat.le_trans Nat.and_le_right ?_
      rw [BitVec.ofInt_natCast, BitVec.toNat_ofNat]
      exact Nat.mod_le _ _
    show IntKind.u32.wrap ((BitVec.ofInt 32 a &&& BitVec.ofInt 32 (m : Int)).toNat : Int) = _
    generalize (BitVec.ofInt 32 a &&& BitVec.ofInt 32 (m : Int)).toNat = v at h
    simp only [IntKind.wrap, IntKind.bits, IntKind.signed]
    simp
    omega
  · rw [BitVec.toNat_and]
    refine Nat.le_trans Nat.and_le_right ?_
    rw [BitVec.ofInt_natCast, BitVec.toNat_ofNat]
    exact Nat.mod_le _ _
theorem and_255 {K : Nat} (h : K ≤ 65535) : Hid (bits .and .u32 (K : Int) 255 = ((K % 256 : Nat) : Int)) := Lib.hid (by
  show IntKind.u32.wrap ((BitVec.ofInt 32 (K : Int) &&& BitVec.ofInt 32 255).toNat : Int) = _
  have e : (BitVec.ofInt 32 (K : Int) &&& BitVec.ofInt 32 255).toNat = K % 256 := by
    rw [BitVec.toNat_and, BitVec.ofInt_natCast, BitVec.toNat_ofNat, Nat.mod_eq_of_lt (by omega)]
    exact Nat.and_two_pow_sub_one_eq_mod K 8
  rw [e]
  have : K % 256 < 256 := Nat.mod_lt _ (by decide)
  generalize K % 256 = v at this
  simp only [IntKind.wrap, IntKind.bits, IntKind.signed]
  simp
  omega)
theorem imm_byt {o : Int} {K : Nat} (h1 : 0 ≤ o) (h2 : o ≤ 17) (h : K ≤ 65535) : BytI ⟨o, 1, (K : Int) / 256, ((K % 256 : Nat) : Int)⟩ := by
  unfold BytI
  dsimp only
  exact ⟨⟨h1, by omega⟩, by decide, ⟨by omega, by omega⟩, ⟨by omega, by omega⟩⟩
set_option maxHeartbeats 1000000 in
theorem imms15_walk (H : IsaW) (a0 a1 : Int) (w : World) (hnw : NamW w) : Calls Tryd.prog 7 #[.int .u32 a0, .int .i64 a1] w (Yes w) := by
  obtain ⟨t, s, o, HT, HS, HO, ho1, ho2⟩ := up18 a1
  obtain ⟨K, hK, bK⟩ := and_mask32 a0 65535 65535
  have HL := and_255 bK
  have CK := Lib.hid fun V (hv : Below w.heap.size w V) => known15_any H V (hnw.on hv)
  have HY := imm_byt ho1 ho2 bK
  have CI := Lib.hid fun W => H.imm ⟨o, 1, (K : Int) / 256, ((K % 256 : Nat) : Int)⟩ W
  rw [imm_div _ _ K bK] at CI
  obtain ⟨D, hD⟩ : ∃ D : Int, (K : Int) / 256 = D := ⟨_, rfl⟩
  obtain ⟨L, hL⟩ : ∃ L : Nat, K % 256 = L := ⟨_, rfl⟩
  rw [hD, hL] at CI HY
  rw [hL] at HL
  have HD := Lib.hid hD
  have hfet := fet_yes (L := [⟨0, 0, 0, 0⟩, ⟨o, 1, D, (L : Int)⟩]) (j := 1) rfl HY
  have CF : Hid (∀ (A : Option Addr) (n c : Nat) (W : World), Rd W W.heap.size A n ([⟨0, 0, 0, 0⟩, ⟨o, 1, D, (L : Int)⟩].flatMap by4) → n ≤ c → Calls Tryd.prog 12 #[.slice A n c, .int .i64 4] W (Ans (.tuple #[.agg #[.int .i64 o, .int .i64 1, .int .i64 D, .int .i64 (L : Int)], .bool true]) W)) := Lib.hid fun A n c W hr hc => by
    have hl := hr.1
    rw [flat4_len] at hl
    have hn : n = 8 := hl.symm
    have h := H.fetch A n c _ 4 W hr (by omega) hc (by omega)
    rw [show (4 : Int) = ((4 * 1 : Nat) : Int) from rfl, hfet.1, hfet.2] at h
    exact h
  have CB := Lib.hid fun (B : Option Addr) (W : World) (hr : RdB ic W W.heap.size B 2 [⟨0, 0, 0, 0⟩, ⟨o, 1, D, (L : Int)⟩]) => H.bytes B 2 2 _ W hr (by decide) (Nat.le_refl _)
  have QF := Lib.hid fun W => in_eqs ⟨o, 1, D, (L : Int)⟩ ⟨o, 1, D, (L : Int)⟩ W
  rw [decide_eq_true rfl] at QF
  unfold iv at CI QF
  dsimp only at CI QF
  have HWD : Hid (wrap64 D = D) := Lib.hid (w64I ⟨by have h := HY.2.2.1.1; exact Int.le_trans (by decide) h, by have h := HY.2.2.1.2; exact Int.le_trans h (by decide)⟩)
  have HWL : Hid (wrap64 (L : Int) = (L : Int)) := Lib.hid (w64I ⟨by have h := HY.2.2.2.1; exact Int.le_trans (by decide) h, by have h := HY.2.2.2.2; exact Int.le_trans h (by decide)⟩)
  clear hfet HY hD hL ho1 ho2 bK hnw
  have hT := HT.out
  have hs := HS.out
  have hO := HO.out
  have hK := hK.out
  have hL := HL.out
  have hD := HD.out
  have hwD := HWD.out
  have hwL := HWL.out
  clear HT HS HO HD HL HWD HWL
  go_enter Tryd.func7, Tryd.ntmps7
  go_upto_region 3 with fail
  have hb0 := bl1 w (.cells #[.int .i64 o, .int .i64 1, .int .i64 D, .int .i64 (L : Int)] 26)
  have hf0 := fo_new w o 1 D L
  generalize w.alloc (.cells #[.int .i64 o, .int .i64 1, .int .i64 D, .int .i64 (L : Int)] 26) = W0 at hb0 hf0 ⊢
  obtain ⟨g6, hg⟩ : ∃ g, g = w.heap.size := ⟨_, rfl⟩
  rw [← hg] at hf0 ⊢
  clear hg
  have HB0 := Lib.hid hb0
  have HF0 := Lib.hid hf0
  obtain ⟨x0, x1, x2, x3⟩ := hf0
  dsimp only at x0 x1 x2 x3
  have hrb := two_rd W0 ⟨0, 0, 0, 0⟩ ⟨o, 1, D, (L : Int)⟩
  have hbl := bl1 W0 (.cells #[.int .i64 0, .int .i64 0, .int .i64 0, .int .i64 0, .int .i64 o, .int .i64 1, .int .i64 D, .int .i64 (L : Int)] 26)
  dsimp only at hrb
  have HRB := Lib.hid hrb
  have HBL := Lib.hid hbl
  clear hb0 hrb hbl
  go_wp2_with fail
  refine (CB.out _ _ HRB.out).mono ?_
  rintro e w2 ⟨A2, n2, c2, rfl, hr2, hc2, hb2⟩
  have HBZ := Lib.hid (HBL.out.trans (hb2.mono HBL.out.size))
  clear HRB HBL hb2 x0 x1 x2 x3 CB
  go_wp2_with fail
  refine (CF.out A2 n2 c2 w2 hr2 hc2).mono ?_
  rintro e w3 ⟨rfl, hb3⟩
  have HBY := Lib.hid (HBZ.out.trans (hb3.mono HBZ.out.size))
  clear hr2 hc2 hb3 HBZ CF
  go_upto_region 4 with fail
  have hb4 := bl1 w3 (.cells #[.int .i64 o, .int .i64 1, .int .i64 D, .int .i64 (L : Int)] 26)
  have hf4 := fo_new w3 o 1 D L
  generalize w3.alloc (.cells #[.int .i64 o, .int .i64 1, .int .i64 D, .int .i64 (L : Int)] 26) = W4 at hb4 hf4 ⊢
  generalize w3.heap.size = g7 at hf4 ⊢
  have hbx := HBY.out.trans (hb4.mono HBY.out.size)
  obtain ⟨x0, x1, x2, x3⟩ := HF0.out.on hbx
  obtain ⟨y0, y1, y2, y3⟩ := hf4
  have HB4 := Lib.hid (HB0.out.trans (hbx.mono HB0.out.size))
  dsimp only at x0 x1 x2 x3 y0 y1 y2 y3
  have qf := QF.out
  clear hb4 hbx HF0 HB0 HBY QF
  go_wp2_with fail
  refine (CI.out W4).mono ?_
  rintro e w5 ⟨rfl, hb5⟩
  have HB5 := Lib.hid (HB4.out.trans (hb5.mono HB4.out.size))
  clear hb5 x0 x1 x2 x3 y0 y1 y2 y3
  go_wp2_with fail
  refine (CK.out w5 HB5.out).mono ?_
  rintro e w6 ⟨rfl, hb6⟩
  go_wp2_with fail
  go_ret
  exact ⟨rfl, HB5.out.trans (hb6.mono HB5.out.size)⟩
end Go.Proofs.YtomaommamjhmmaaDoor
